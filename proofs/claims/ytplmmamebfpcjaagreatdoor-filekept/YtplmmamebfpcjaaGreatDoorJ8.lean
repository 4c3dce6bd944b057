import Derived.Test.YtplmmamebfpcjaaGreatDoorJ7
import Derived.Test.YtplmmamebfpcjaaGreatDoorJ5
import Derived.Test.YtplmmamebfpcjaaGreatDoorJ6
import Derived.StillTail
import Derived.Below
section
/- model.Model.rankMerges: its contract. -/
namespace Go.Proofs.YtplmmamebfpcjaaGreatDoor
open Go.RowKit Go.Sort Go.Joins Go.Maps Go.WideMaps
set_option linter.unusedVariables false
/-- The key of a pair. -/
def pairV (p : Int × Int) : Value := .agg #[.int .i64 p.1, .int .i64 p.2]
theorem pairV_inj (x y : Int × Int) (h : pairV x = pairV y) : x = y := by
  unfold pairV at h
  simp at h
  exact Prod.ext h.1 h.2
theorem pairArr : ArrKey Tryz.prog 143 3 2 := ⟨Tryz.underlying143, by kernel_rfl, by kernel_rfl, by kernel_rfl⟩
theorem lawP : Keyed Tryz.prog 143 := Keyed.of_law pairArr.law
theorem keyP {l r : Int} (hl : W64 l) (hr : W64 r) : keyOf Tryz.prog 143 (pairV (l, r)) = some (.string (keyBytes [.int .i64 l, .int .i64 r])) :=
  keyOf_pair pairArr und3 ⟨_, rfl⟩ (WalkArith.wf_i64 hl) (WalkArith.wf_i64 hr)
/-- What the map of ranks holds. -/
def rankF (ms : List Mg) (p : Int × Int) : Option Int := (rankM ms p.1 p.2).map (fun k : Nat => (k : Int))
theorem rankF_nil : rankF [] = fun _ => none := rfl
theorem rankF_none {ms : List Mg} {k : Nat} {x : Mg} (h : (ms.take k).any (fun y => pairB y x.l x.r) = false) : rankF (ms.take k) (x.l, x.r) = none := by
  have : rankM (ms.take k) x.l x.r = none := by
    unfold rankM
    rw [List.findIdx?_eq_none_iff]
    intro y hy
    rw [List.any_eq_false] at h
    simpa using h y hy
  unfold rankF
  rw [this]; rfl
theorem pairB_iff {x : Mg} {l r : Int} : pairB x l r = true ↔ (x.l, x.r) = (l, r) := by
  unfold pairB
  simp
theorem rankF_step {ms : List Mg} {k : Nat} {x : Mg} (hx : ms[k]? = some x) (h : (ms.take k).any (fun y => pairB y x.l x.r) = false) : rankF (ms.take (k + 1)) = fun z => if z = (x.l, x.r) then some (k : Int) else rankF (ms.take k) z := by
  funext z
  have h0 := rankF_none h
  have hs := rankM_step ms k x hx z.1 z.2
  unfold rankF at h0 ⊢
  rw [hs]
  by_cases e : z = (x.l, x.r)
  · subst e
    have h1 : rankM (ms.take k) x.l x.r = none := by
      cases hr : rankM (ms.take k) x.l x.r with
      | none => rfl
      | some i => simp [hr] at h0
    simp only [h1]
    rw [if_pos (pairB_iff.2 rfl)]; simp
  · rw [if_neg e]
    cases hr : rankM (ms.take k) z.1 z.2 with
    | some i => rfl
    | none =>
      have : pairB x z.1 z.2 = false := by
        cases hp : pairB x z.1 z.2 with
        | false => rfl
        | true => exact absurd (pairB_iff.1 hp).symm e
      simp only [this]; rfl
theorem made_zero (ms : List Mg) (id : Int) : madeM ms 0 id = (decide (0 ≤ id) && decide (id < 256)) := by
  unfold madeM
  simp
theorem made_step {ms : List Mg} {k : Nat} {x : Mg} (hx : ms[k]? = some x) (h : 256 ≤ x.i) (id : Int) : madeM ms (k + 1) id = (id == x.i || madeM ms k id) := by
  unfold madeM
  rw [any_take_snoc hx]
  by_cases e : id = x.i
  · subst e
    simp [h]
  · have e1 : (id == x.i) = false := by simpa using e
    have e2 : (x.i == id) = false := by simpa using fun h => e h.symm
    rw [e1, e2]; simp
theorem badM_zero_any {ws : List ByteArray} {ms : List Mg} {k : Nat} {x : Mg} (hx : ms[k]? = some x) (h : badM ws ms k = 0) : (ms.take k).any (fun y => pairB y x.l x.r) = false := by
  unfold badM at h
  by_cases h0 : cutM ws ms k ≠ 0
  · rw [if_pos h0] at h; exact absurd h h0
  · rw [if_neg h0, hx] at h
    simp only at h
    cases ha : (ms.take k).any (fun y => pairB y x.l x.r) with
    | false => rfl
    | true => rw [ha, if_pos rfl] at h; cases h
theorem infoBool : (Tryz.prog.info? 4).map (fun i => (i.zero, i.size, i.bytes)) = some (some (.bool false), 1, 1) := by kernel_rfl
theorem made_new (n : Nat) (hn : n ≤ 4611686018427387904) (w : World) : MadeAt (w.alloc (.cells (Array.replicate n (Value.bool false)) 4)) w.heap.size n (fun _ => false) :=
  ⟨⟨_, heap_alloc_new _ _, by simp, fun i hi => by simp [hi]⟩, fun _ _ => rfl⟩
set_option maxRecDepth 100000 in
set_option maxHeartbeats 4000000 in
theorem rankMerges_any (g gr cw cm : Nat) (aw am : Option Addr) (ws : List ByteArray) (ms : List Mg) (w : World) (hn : ws.length ≤ 4096) (hl : ms.length ≤ 4096) (hwf : MWf ms) (hz6 : ∀ (i : Nat) (x : ByteArray), ws[i]? = some x → x.size ≤ 256) (hRgt : WRgt ws)
    (d0 : w.cell? ⟨g, 0, none⟩ = some (.slice aw ws.length cw)) (d1 : w.cell? ⟨g, 1, none⟩ = some (.slice am ms.length cm)) (d6 : w.cell? ⟨g, 6, none⟩ = some (.map (some gr)))
    (hW : WSP w aw ws) (hM : MSP w am ms) (hR : MapI w 143 pairV gr 0 (fun _ => none)) :
    Calls Tryz.prog 57 #[.pointer (some ⟨g, 0, none⟩)] w fun e w' => e = .returned (.tuple #[.int .i64 ((firstBad (badM ws ms) ms.length).2 : Nat), .int .i64 ((firstBad (badM ws ms) ms.length).1 : Nat)]) ∧ But gr w.heap.size w w' ∧ ((firstBad (badM ws ms) ms.length).1 = 0 → MapI w' 143 pairV gr ms.length (rankF ms)) := by
  have hgk := World.block_lt_of_cell? w _ d0
  have hgrk := hR.lt
  rw [← first_cut hRgt]
  obtain ⟨E, hE⟩ : ∃ E, E = firstBad (cutM ws ms) ms.length := ⟨_, rfl⟩
  have HE : Hid (E = firstBad (cutM ws ms) ms.length) := hE
  rw [← hE]
  obtain ⟨i0, hi, hz0, hz1, hz2⟩ := info_parts infoBool
  have hmk : ∀ u : World, (Instr.makeSlice 140 (.int .i64 (256 + (ws.length : Int))) (.int .i64 (256 + (ws.length : Int)))).run Tryz.prog u =
      .ok (.slice (some ⟨u.heap.size, 0, none⟩) (256 + ws.length) (256 + ws.length)) (u.alloc (.cells (Array.replicate (256 + ws.length) (Value.bool false)) 4)) := fun u => by
    have h := run_make (P := Tryz.prog) u 140 4 i0 _ Tryz.underlying140 hi hz0 .i64 .i64 (256 + (ws.length : Int)) (256 + (ws.length : Int)) (by omega) (Int.le_refl _) (by rw [hz2]; omega) (by omega)
    have e : (256 + (ws.length : Int)).toNat = 256 + ws.length := by omega
    rw [e, hz1] at h
    rw [h]
    congr 3
    simp only [madeCells, Value.cells]
    exact Array.ext (by simp) fun i h1 h2 => by simp [Nat.mod_one]
  have hS := fun wx hx => size_any g ws.length cw aw wx (by omega) hx
  have hb0 := box_below w (.cells (Array.replicate (256 + ws.length) (Value.bool false)) 4)
  have hM0 := made_new (256 + ws.length) (by omega) w
  have HCK : ∀ wr, But gr w.heap.size w wr → CK w wr := fun wr h => h.ck hR
  have HW0 : Hid (WSP w aw ws) := hW
  have HM0 : Hid (MSP w am ms) := hM
  have H0 : Hid (w.cell? ⟨g, 0, none⟩ = some (.slice aw ws.length cw)) := d0
  have H6 : Hid (w.cell? ⟨g, 6, none⟩ = some (.map (some gr))) := d6
  clear hE hi hz0 hz1 hz2
  go_enter Tryz.func57, Tryz.ntmps57
  go_wp2_with fail
  refine (hS _ d0).mono ?_
  rintro e w' ⟨rfl, he⟩
  obtain rfl := he.symm
  go_wp2_with fail
  obtain ⟨Y, hY⟩ : ∃ Y, Y = w.alloc (.cells (Array.replicate (256 + ws.length) (Value.bool false)) 4) := ⟨_, rfl⟩
  rw [← hY] at hb0 hM0 ⊢
  have hYs : w.heap.size + 1 = Y.heap.size := by rw [hY]; simp
  obtain ⟨z, hz⟩ : ∃ z, z = w.heap.size := ⟨_, rfl⟩
  have HZ : Hid (z = w.heap.size) := hz
  have d0 := (hb0.cell (p := ⟨g, 0, none⟩) hgk).trans d0
  have d1 := (hb0.cell (p := ⟨g, 1, none⟩) hgk).trans d1
  have d6 := (hb0.cell (p := ⟨g, 6, none⟩) hgk).trans d6
  have hW := hW.below hb0
  have hM := hM.below hb0
  have hR := hR.below hb0 hgrk
  rw [← hz] at hM0 hYs HCK ⊢
  have hgz : g < z := by rw [hz]; exact hgk
  have hgrz : gr < z := by rw [hz]; exact hgrk
  clear hY hz hgk hgrk hmk
  have hBt0 : But gr z w Y := by rw [HZ.out]; exact But.of_below hb0
  go_loopw [12] (fun i wr => ∃ k : Nat, k ≤ 256 ∧ i = .int .i64 k ∧ MadeAt wr z (256 + ws.length) (fun id => decide (0 ≤ id) && decide (id < (k : Int))) ∧ Below z Y wr) (fun i _ => 256 - (intOf i).toNat)
  case atStart =>
    refine ⟨0, Nat.zero_le _, rfl, hM0.congr fun id => ?_, Below.refl _ _⟩
    by_cases h : 0 ≤ id
    · rw [decide_eq_false (show ¬ id < ((0 : Nat) : Int) by omega), Bool.and_false]
    · rw [decide_eq_false h]; rfl
  case round =>
    obtain ⟨k, hk, rfl, hMk, hbr⟩ := hrel
    by_cases hlt : k < 256
    · have g0 : decide ((k : Int) < 256) = true := decide_eq_true (by omega)
      obtain ⟨cur, hc, hs, hf⟩ := hMk.row
      have q0 := cell_of_block hc k
      rw [hf k (by omega)] at q0
      have f0 := fun j => unfrozen_of_block hc j
      have HMk : Hid (MadeAt wr z (256 + ws.length) (fun id => decide (0 ≤ id) && decide (id < (k : Int)))) := hMk
      have HBR : Hid (Below z Y wr) := hbr
      clear hc hs hf hMk hbr hM0
      go_wp2_with fail
      refine ⟨⟨k + 1, by omega, by go_num, (HMk.out.set (by omega)).congr fun id => ?_, HBR.out.setCell (p := ⟨z, k, none⟩) (Nat.le_refl _) _⟩, by simp only [intOf]; omega⟩
      by_cases e : id = (k : Int)
      · subst e
        simp
        omega
      · have : (id == (k : Int)) = false := by simpa using e
        rw [this, Bool.false_or]
        congr 1
        rw [decide_eq_decide]
        omega
    · have hk6 : k = 256 := by omega
      subst hk6
      have e0 := (hbr.cell (p := ⟨g, 0, none⟩) hgz).trans d0
      have e1 := (hbr.cell (p := ⟨g, 1, none⟩) hgz).trans d1
      have hMk' : MadeAt wr z (256 + ws.length) (madeM ms 0) := hMk.congr fun id => made_zero ms id
      have hBt1 := hBt0.trans (But.of_below hbr)
      have hRr := hR.below hbr hgrz
      have HD : Hid (Below z Y wr) := hbr
      have hsz1 : z < wr.heap.size := hMk'.lt
      clear hM0 hBt0 hMk hbr
      go_wp2_with fail
      obtain ⟨V, hV⟩ : ∃ V, V = wr := ⟨_, rfl⟩
      obtain rfl := hV.symm
      clear hV e0 e1
      simp only [show ((256 : Nat) : Int) = 256 from rfl]
      go_loopw [25] (fun i wr => ∃ k : Nat, k ≤ ms.length ∧ i = .int .i64 k ∧ (∀ j, j < k → cutM ws ms j = 0) ∧ MadeAt wr z (256 + ws.length) (madeM ms k) ∧ MapI wr 143 pairV gr k (rankF (ms.take k)) ∧ But gr z w wr ∧ z < wr.heap.size) (fun i _ => ms.length - (intOf i).toNat)
      case atStart => exact ⟨0, Nat.zero_le _, rfl, fun j hj => absurd hj (Nat.not_lt_zero _), hMk', hRr, hBt1, hsz1⟩
      case round =>
        clear hMk' hRr hBt1 hsz1
        obtain ⟨k, hk, rfl, hok, hMk, hRk, hBt, hsz⟩ := hrel
        have HOK : Hid (∀ j, j < k → cutM ws ms j = 0) := hok
        have HB : Hid (But gr z w wr) := hBt
        clear hok
        by_cases hlt : k < ms.length
        · obtain ⟨x, hx⟩ : ∃ x, ms[k]? = some x := ⟨_, List.getElem?_eq_getElem hlt⟩
          have g0 : decide ((k : Int) < (ms.length : Int)) = true := decide_eq_true (by omega)
          have HX : Hid (ms[k]? = some x) := hx
          have hwx := hwf k x hx
          have ck := HCK wr hBt
          have hD := box_below wr (.cells #[.int .i64 x.l, .int .i64 x.r, .int .i64 x.i] 75)
          have hN := heap_alloc_new wr (.cells #[.int .i64 x.l, .int .i64 x.r, .int .i64 x.i] 75)
          have e0 := cell_ck (cell_ck H0.out ck) (CK.of_below hD)
          have hW1 := (HW0.out.ck ck).below hD
          have hM1 := hMk.below hD hsz
          have hR1 := hRk.below hD hRk.lt
          have HWM := wrongMerge_any g z cw k aw ws ms x _ (by omega) hz6 hx e0 hW1 hM1
          obtain ⟨bm, off, hae, hc0, hc1, hc2⟩ := (HM0.out.ck ck).at_ hx
          subst hae
          have n0 := cell_of_block hN 0
          have n1 := cell_of_block hN 1
          have n2 := cell_of_block hN 2
          have HN : Hid ((wr.alloc (.cells #[.int .i64 x.l, .int .i64 x.r, .int .i64 x.i] 75)).heap[wr.heap.size]? = some (.cells #[.int .i64 x.l, .int .i64 x.r, .int .i64 x.i] 75 (0, 0))) := hN
          have HR1 : Hid (MapI (wr.alloc (.cells #[.int .i64 x.l, .int .i64 x.r, .int .i64 x.i] 75)) 143 pairV gr k (rankF (ms.take k))) := hR1
          have HM1 : Hid (MadeAt (wr.alloc (.cells #[.int .i64 x.l, .int .i64 x.r, .int .i64 x.i] 75)) z (256 + ws.length) (madeM ms k)) := hM1
          have hgk : gr < wr.heap.size := hRk.lt
          have hB1 := hBt.trans (But.of_below (hD.mono (by have := hBt.size; rw [HZ.out]; exact this)))
          clear hx hN hM1 hW1 hR1 hMk hRk hBt ck hD
          go_wp2_with fail
          refine HWM.mono ?_
          rintro e w1 ⟨rfl, hb1⟩
          obtain ⟨xb, hxb⟩ : ∃ xb, xb = wr.heap.size := ⟨_, rfl⟩
          have hN := (hb1.block _ (by simp)).trans HN.out
          have hM1 := HM1.out.below hb1 (by simp; omega)
          have hR1 := HR1.out.below hb1 (by simp; omega)
          have hB2 := hB1.trans (But.of_below (hb1.mono (by have := hB1.size; rw [HZ.out]; exact this)))
          rw [← hxb] at hN ⊢
          have hs1 : xb < w1.heap.size := (Array.getElem?_eq_some_iff.1 hN).1
          have hzx : z < xb := by rw [hxb]; exact hsz
          have n0 := cell_of_block hN 0
          have n1 := cell_of_block hN 1
          have n2 := cell_of_block hN 2
          have HN1 : Hid (w1.heap[xb]? = some (.cells #[.int .i64 x.l, .int .i64 x.r, .int .i64 x.i] 75 (0, 0))) := hN
          obtain ⟨c, hc⟩ : ∃ c, c = cutM ws ms k := ⟨_, rfl⟩
          have HC : Hid (c = cutM ws ms k) := hc
          rw [← hc]
          clear hN HN HM1 HR1 hB1 hb1 hxb hc hc0 hc1 hc2 HWM
          by_cases h0 : c = 0
          · subst h0
            obtain ⟨a1, a2, -, -, -, -⟩ := cutM_zero HX.out HC.out.symm
            obtain ⟨q, hq⟩ : ∃ q : Nat, x.i = q := ⟨x.i.toNat, by omega⟩
            have hql : q < 256 + ws.length := by omega
            have hno := badM_zero_any HX.out ((badM_cut (ws := ws) hRgt HOK.out).symm.trans HC.out.symm)
            have hFx := rankF_none hno
            clear n2
            have n2 : w1.cell? ⟨xb, 2, none⟩ = some (.int .i64 (q : Int)) := by rw [cell_of_block HN1.out 2, ← hq]; rfl
            have hMs := (hM1.set hql).congr (f' := madeM ms (k + 1)) (fun id => by rw [made_step HX.out a1, hq])
            obtain ⟨cur, hcr, -, hfr⟩ := hM1.row
            have q0 := cell_of_block hcr q
            rw [hfr q hql] at q0
            have f0 := fun j => unfrozen_of_block hcr j
            have hkey := keyP hwx.1 hwx.2.1
            have hkl : k < maxLen := by unfold maxLen; omega
            have hwfk := wf_nat k (by omega)
            have HF : Hid (rankF (ms.take (k + 1)) = fun z => if z = (x.l, x.r) then some (k : Int) else rankF (ms.take k) z) := rankF_step HX.out hno
            clear hM1 hcr hfr hno hq a1 a2
            go_wp2_with fail
            obtain ⟨W2, hW2⟩ : ∃ W2, W2 = w1.setCell ⟨z, q, none⟩ (.bool true) := ⟨_, rfl⟩
            have hB3 := hB2.above (p := ⟨z, q, none⟩) (Nat.le_refl z) (.bool true)
            have hN2 := (Below.heap_setCell w1 ⟨z, q, none⟩ (.bool true) xb (by show xb ≠ z; omega)).trans HN1.out
            have hR2 := hR1.kept (Below.heap_setCell w1 ⟨z, q, none⟩ (.bool true) gr (by show gr ≠ z; omega))
            rw [← hW2] at hMs hB3 hN2 hR2 ⊢
            have e6 := cell_ck H6.out (HCK _ hB3)
            have n0 := cell_of_block hN2 0
            have n1 := cell_of_block hN2 1
            have hs2 : z < W2.heap.size := hMs.lt
            clear n2 f0 q0 hW2 hN2 hR1 hB2 HN1
            refine wp_region_quiet_tail (C := fun w' => ∃ n, w' = W2.drewN n) 10 (by kernel_rfl) (by kernel_rfl) ⟨1, rfl⟩ ?_
            simp only [List.take_succ_cons, List.take_zero, List.drop_succ_cons, List.drop_zero]
            repeat (go_big_quiet_step (fail))
            refine wpQuiet_nil ?_
            intro _ hw'
            obtain ⟨nq, hw''⟩ := hw'
            subst hw''
            have hbd := below_drewN (Below.refl W2.heap.size W2) nq
            have hR3 := hR2.below hbd hR2.lt
            have hM3 := hMs.below hbd hs2
            have hB4 := hB3.trans (But.of_below (hbd.mono (by omega)))
            have hs4 : z < (W2.drewN nq).heap.size := hM3.lt
            clear hR2 hMs hB3 e6 n0 n1 hbd
            go_wp2_with (first | (at_mapUpdate; refine wpList_store _ rfl _ _ _ 104 rfl lawP pairV_inj Tryz.underlying104 rfl hR3 hkl (x.l, x.r) _ (k : Int) rfl rfl hkey hFx hwfk ?_; intro w3 hR5 hg5) | fail)
            go_roundw
            case measure => simp only [intOf]; omega
            case rel =>
            refine ⟨k + 1, by omega, by go_num, fun j hj => ?_, hM3.kept (hg5.block z hs4 (fun e => ?_)), ?_, hB4.grown hg5 (by omega), ?_⟩
            · by_cases e : j = k
              · rw [e]; exact HC.out.symm
              · exact HOK.out j (by omega)
            · have := Option.some.inj e
              omega
            · rw [HF.out]; exact hR5
            · have := hg5.size
              omega
          · have hne : ((c : Int) == 0) = false := by simp; omega
            have hbad : firstBad (cutM ws ms) ms.length = (c, k) := by
              rw [firstBad_some hlt HOK.out (by rw [← HC.out]; exact h0), ← HC.out]
            have HE2 : Hid (E = (c, k)) := HE.out.trans hbad
            clear hM1 hR1 n0 n1 n2 hbad
            go_wp2_with fail
            exact bodyPost_ret (v := .tuple #[.int .i64 (k : Int), .int .i64 (c : Int)]) (by simp [results, Tryz.results57, go_sem]) rfl ⟨by rw [HE2.out], HZ.out ▸ hB2, fun e => absurd (by rw [HE2.out] at e; exact e) h0⟩
        · have hkn : k = ms.length := by omega
          subst hkn
          have HE2 : Hid (E = (0, 0)) := HE.out.trans (firstBad_none HOK.out)
          rw [List.take_length] at hRk
          clear hMk hBt
          have HRk := fun (_ : E.1 = 0) => hRk
          clear hRk
          go_wp2_with fail
          exact bodyPost_ret (v := .tuple #[.int .i64 0, .int .i64 0]) (by simp [results, Tryz.results57, go_sem]) rfl ⟨by rw [HE2.out]; rfl, HZ.out ▸ HB.out, HRk⟩
end Go.Proofs.YtplmmamebfpcjaaGreatDoor
end
section
/- model.wrongNumbers, longest, wrongWord: their contracts. -/
namespace Go.Proofs.YtplmmamebfpcjaaGreatDoor
open Go.RowKit Go.Sort Go.Joins Go.Maps Go.WideMaps
def numF (n m : Nat) : Nat × Nat × Nat := if 4096 < m then (4, 5, 4096) else if n ≠ m then (4, 4, min n m) else (0, 0, 0)
/-- A refusal. -/
def f3V (p : Nat × Nat × Nat) : Value := .agg #[.int .i64 (p.1 : Nat), .int .i64 (p.2.1 : Nat), .int .i64 (p.2.2 : Nat)]
set_option maxRecDepth 100000 in
set_option maxHeartbeats 4000000 in
theorem numbers_any (aw am a b c : Option Addr) (nw cw nm cm na ca nb cb nc cc : Nat) (w : World) :
    Calls Tryz.prog 53 #[.agg #[.slice aw nw cw, .slice am nm cm, .slice a na ca, .slice b nb cb, .slice c nc cc]] w fun e w' => e = .returned (f3V (numF nw nm)) ∧ Below w.heap.size w w' := by
  have hD := DBox.new w (.slice aw nw cw) (.slice am nm cm) (.slice a na ca) (.slice b nb cb) (.slice c nc cc)
  have hb := box_below w (.cells #[.slice aw nw cw, .slice am nm cm, .slice a na ca, .slice b nb cb, .slice c nc cc] 26)
  have hD2 := hD.below (box_below (w.alloc (.cells #[.slice aw nw cw, .slice am nm cm, .slice a na ca, .slice b nb cb, .slice c nc cc] 26)) (.cells #[.int .i64 0, .int .i64 0, .int .i64 0] 65)) hD.lt
  clear hD
  have x0 := hD2.c0
  have x1 := hD2.c1
  clear hD2
  obtain ⟨E, hE⟩ : ∃ E, E = numF nw nm := ⟨_, rfl⟩
  have HE : Hid (E = numF nw nm) := hE
  rw [← hE]
  clear hE
  obtain ⟨q, hq⟩ : ∃ q, q = min nw nm := ⟨_, rfl⟩
  have HQ : Hid (q = min nw nm) := hq
  clear hq
  by_cases h1 : 4096 < nm
  · have g1 : decide ((4096 : Int) < (nm : Int)) = true := decide_eq_true (by omega)
    have HE2 : Hid (E = (4, 5, 4096)) := by rw [HE.out]; unfold numF; rw [if_pos h1]; exact rfl
    go_enter Tryz.func53, Tryz.ntmps53
    go_wp2_with fail
    exact bodyPost_ret (v := .agg #[.int .i64 4, .int .i64 5, .int .i64 4096]) (by simp [results, Tryz.results53, go_sem]) rfl ⟨by rw [HE2.out]; rfl, hb.alloc hb.size _⟩
  · have g1 : decide ((4096 : Int) < (nm : Int)) = false := decide_eq_false (by omega)
    by_cases h2 : nw = nm
    · subst h2
      have HE2 : Hid (E = (0, 0, 0)) := by rw [HE.out]; unfold numF; rw [if_neg h1, if_neg (by simp)]; exact rfl
      go_enter Tryz.func53, Tryz.ntmps53
      go_wp2_with fail
      exact bodyPost_ret (v := .agg #[.int .i64 0, .int .i64 0, .int .i64 0]) (by simp [results, Tryz.results53, go_sem]) rfl ⟨by rw [HE2.out]; rfl, hb.alloc hb.size _⟩
    · have g2 : ((nw : Int) == (nm : Int)) = false := by simp; omega
      have HE2 : Hid (E = (4, 4, q)) := by rw [HE.out, HQ.out]; unfold numF; rw [if_neg h1, if_pos h2]; exact rfl
      go_enter Tryz.func53, Tryz.ntmps53
      go_wp2_with fail
      all_goals
        rename_i hcmp
      · have e : (nm : Int) = (q : Int) := by rw [HQ.out]; omega
        exact bodyPost_ret (v := .agg #[.int .i64 4, .int .i64 4, .int .i64 (nm : Int)]) (by simp [results, Tryz.results53, go_sem]) rfl ⟨by rw [HE2.out, e]; rfl, hb.alloc hb.size _⟩
      · have e : (nw : Int) = (q : Int) := by rw [HQ.out]; omega
        exact bodyPost_ret (v := .agg #[.int .i64 4, .int .i64 4, .int .i64 (nw : Int)]) (by simp [results, Tryz.results53, go_sem]) rfl ⟨by rw [HE2.out, e]; rfl, hb.alloc hb.size _⟩
set_option maxRecDepth 100000 in
set_option maxHeartbeats 4000000 in
theorem longest_any (aw : Option Addr) (cw : Nat) (ws : List ByteArray) (w : World) (hn : ws.length ≤ 4611686018427387904) (hW : WSP w aw ws) :
    Calls Tryz.prog 56 #[.slice aw ws.length cw] w fun e w' => e = .returned (.int .i64 (longM ws : Nat)) ∧ w' = w := by
  go_enter Tryz.func56, Tryz.ntmps56
  go_wp2_with fail
  go_loopw [3, 8] (fun m i wr => ∃ k : Nat, k ≤ ws.length ∧ i = .int .i64 k ∧ m = .int .i64 (longM (ws.take k) : Nat) ∧ wr = w) (fun _ i _ => ws.length - (intOf i).toNat)
  case atStart => exact ⟨0, Nat.zero_le _, rfl, by simp [longM], rfl⟩
  case round =>
    obtain ⟨k, hk, rfl, rfl, he⟩ := hrel
    obtain rfl := he.symm
    by_cases hlt : k < ws.length
    · obtain ⟨x, hx⟩ : ∃ x, ws[k]? = some x := ⟨_, List.getElem?_eq_getElem hlt⟩
      have hs := longM_step ws k x hx
      have g0 : decide ((k : Int) < (ws.length : Int)) = true := decide_eq_true (by omega)
      obtain ⟨L, hL⟩ : ∃ L, L = longM (ws.take k) := ⟨_, rfl⟩
      rw [← hL] at hs ⊢
      obtain ⟨m, hm⟩ : ∃ m : Nat, m = if L < x.size then x.size else L := ⟨_, rfl⟩
      have HS : Hid (longM (ws.take (k + 1)) = m) := by rw [hs, ← hm]; exact rfl
      have HM : Hid (m = if L < x.size then x.size else L) := hm
      obtain ⟨bw, off, rfl, hc⟩ := hW.at_ hx
      clear hs hL hW hm hx
      go_wp2_with fail
      refine ⟨⟨k + 1, by omega, by go_num, ?_, trivial⟩, by simp only [intOf]; omega⟩
      rw [HS.out, HM.out]
      split <;> rfl
    · have hkn : k = ws.length := by omega
      subst hkn
      rw [List.take_length]
      clear hW
      go_wp2_with fail
      go_ret
      exact ⟨rfl, rfl⟩
/-- What the map of rows holds behind k words. -/
def rowsF (ws : List ByteArray) : Nat → ByteArray → Option Int
  | 0 => fun _ => none
  | k + 1 => fun y => if ws[k]? = some y then some (k : Int) else rowsF ws k y
theorem rowsF_some (ws : List ByteArray) (k : Nat) (y : ByteArray) (hk : k ≤ ws.length) : (rowsF ws k y).isSome = (ws.take k).any (fun v => decide (v = y)) := by
  induction k with
  | zero => simp [rowsF]
  | succ k ih =>
    have hx : ws[k]? = some ws[k] := List.getElem?_eq_getElem (by omega)
    rw [any_take_snoc hx, ← ih (by omega)]
    show (if ws[k]? = some y then some (k : Int) else rowsF ws k y).isSome = _
    rw [hx]
    by_cases h : ws[k] = y
    · simp [h]
    · rw [if_neg (fun e => h (Option.some.inj e))]
      simp [h]
theorem rowsF_step {ws : List ByteArray} {k : Nat} {x : ByteArray} (hx : ws[k]? = some x) : rowsF ws (k + 1) = fun y => if y = x then some (k : Int) else rowsF ws k y := by
  funext y
  show (if ws[k]? = some y then _ else _) = _
  rw [hx]
  by_cases h : y = x
  · subst h; simp
  · rw [if_neg (fun e => h (Option.some.inj e).symm), if_neg h]
theorem lawS : Keyed Tryz.prog 9 := string_keyed Tryz.underlying9
theorem strV_inj (x y : ByteArray) (h : Value.string x = Value.string y) : x = y := by cases h; rfl
set_option maxRecDepth 100000 in
set_option maxHeartbeats 4000000 in
theorem wrongWord_any (aw : Option Addr) (cw : Nat) (ws : List ByteArray) (w : World) (hn : ws.length ≤ 4611686018427387904) (hW : WSP w aw ws) :
    Calls Tryz.prog 55 #[.slice aw ws.length cw] w fun e w' => e = .returned (.tuple #[.int .i64 ((firstBad (badW ws) ws.length).2 : Nat), .int .i64 ((firstBad (badW ws) ws.length).1 : Nat)]) ∧ Below w.heap.size w w' := by
  obtain ⟨E, hE⟩ : ∃ E, E = firstBad (badW ws) ws.length := ⟨_, rfl⟩
  have HE : Hid (E = firstBad (badW ws) ws.length) := hE
  rw [← hE]
  clear hE
  have hmm := @run_makeMap Tryz.prog
  have hM0 := MapI.made w 9 Value.string
  have hb0 := box_below w (.map #[] 0)
  go_enter Tryz.func55, Tryz.ntmps55
  go_wp2_with fail
  obtain ⟨Y, hY⟩ : ∃ Y, Y = w.alloc (.map #[] 0) := ⟨_, rfl⟩
  rw [← hY] at hb0 hM0 ⊢
  clear hY hmm
  obtain ⟨z, hz⟩ : ∃ z, z = w.heap.size := ⟨_, rfl⟩
  have HZ : Hid (z = w.heap.size) := hz
  rw [← hz] at hM0 ⊢
  have HW0 : Hid (WSP w aw ws) := hW
  clear hz hW
  go_loopw [12] (fun i wr => ∃ k : Nat, k ≤ ws.length ∧ i = .int .i64 k ∧ (∀ j, j < k → badW ws j = 0) ∧ MapI wr 9 Value.string z k (rowsF ws k) ∧ Below w.heap.size w wr) (fun i _ => ws.length - (intOf i).toNat)
  case atStart => exact ⟨0, Nat.zero_le _, rfl, fun j hj => absurd hj (Nat.not_lt_zero _), hM0, hb0⟩
  case round =>
    clear hM0 hb0
    obtain ⟨k, hk, rfl, hok, hM, hbr⟩ := hrel
    have HOK : Hid (∀ j, j < k → badW ws j = 0) := hok
    have HB : Hid (Below w.heap.size w wr) := hbr
    clear hok
    by_cases hlt : k < ws.length
    · obtain ⟨x, hx⟩ : ∃ x, ws[k]? = some x := ⟨_, List.getElem?_eq_getElem hlt⟩
      have g0 : decide ((k : Int) < (ws.length : Int)) = true := decide_eq_true (by omega)
      have HX : Hid (ws[k]? = some x) := hx
      obtain ⟨bw, off, rfl, hc⟩ := (HW0.out.below hbr).at_ hx
      clear hx hbr
      by_cases hs : x.size < 2 ∨ 256 < x.size
      · have hbad : firstBad (badW ws) ws.length = (21, k) := by
          have := badW_size HX.out hs
          rw [firstBad_some hlt HOK.out (by rw [this]; decide), this]
        have HBD : Hid (firstBad (badW ws) ws.length = (21, k)) := hbad
        have hp : (∃ _ : decide ((x.size : Int) < 2) = false, decide ((256 : Int) < (x.size : Int)) = true) ∨ decide ((x.size : Int) < 2) = true := by
          by_cases h2 : x.size < 2
          · exact .inr (decide_eq_true (by omega))
          · exact .inl ⟨decide_eq_false (by omega), decide_eq_true (by omega)⟩
        clear hbad hs hM
        rcases hp with ⟨g1, g2⟩ | g1
        all_goals
          go_wp2_with fail
          exact bodyPost_ret (v := .tuple #[.int .i64 (k : Int), .int .i64 21]) (by simp [results, Tryz.results55, go_sem]) rfl ⟨by rw [HE.out, HBD.out]; rfl, HB.out⟩
      · have g1 : decide ((x.size : Int) < 2) = false := decide_eq_false (by omega)
        have g2 : decide ((256 : Int) < (x.size : Int)) = false := decide_eq_false (by omega)
        have HS : Hid (¬ (x.size < 2 ∨ 256 < x.size)) := hs
        obtain ⟨F, hF⟩ : ∃ F, F = rowsF ws k := ⟨_, rfl⟩
        have HF : Hid (F = rowsF ws k) := hF
        rw [← hF] at hM
        have hkey : keyOf Tryz.prog 9 (.string x) = some (.string x.data.toList) := Go.WideMaps.keyOf_string_mk Tryz.underlying9 (by unfold maxLen; omega)
        have hany := rowsF_some ws k x hk
        rw [← hF] at hany
        clear hs hF
        cases hFx : F x with
        | some q =>
          have HFx : Hid ((ws.take k).any (fun v => decide (v = x)) = true) := by rw [hFx] at hany; exact hany.symm
          have hbad : firstBad (badW ws) ws.length = (22, k) := by
            have := badW_twice HX.out HS.out HFx.out
            rw [firstBad_some hlt HOK.out (by rw [this]; decide), this]
          have HBD : Hid (firstBad (badW ws) ws.length = (22, k)) := hbad
          clear hbad hany
          go_wp2_with (first | (at_lookup; refine wpList_look _ rfl _ _ 138 rfl lawS Tryz.underlying138 rfl hM x _ rfl hkey ?_; simp only [hFx, Option.getD_some, Option.isSome_some]) | fail)
          exact bodyPost_ret (v := .tuple #[.int .i64 (k : Int), .int .i64 22]) (by simp [results, Tryz.results55, go_sem]) rfl ⟨by rw [HE.out, HBD.out]; rfl, HB.out⟩
        | none =>
          have HFx : Hid ((ws.take k).any (fun v => decide (v = x)) = false) := by rw [hFx] at hany; exact hany.symm
          have HOK1 : Hid (badW ws k = 0) := badW_ok HX.out HS.out HFx.out
          have hwf := wf_nat k (by omega)
          have hkl : k < maxLen := by unfold maxLen; omega
          clear hany
          go_wp2_with (first | (at_lookup; refine wpList_look _ rfl _ _ 138 rfl lawS Tryz.underlying138 rfl hM x _ rfl hkey ?_; simp only [hFx, Option.getD_none, Option.isSome_none]) | (at_mapUpdate; refine wpList_store _ rfl _ _ _ 138 rfl lawS strV_inj Tryz.underlying138 rfl hM hkl x _ (k : Int) rfl rfl hkey hFx hwf ?_; intro w1 hM1 hg1) | fail)
          refine ⟨⟨k + 1, by omega, by go_num, fun i hi => ?_, ?_, ?_⟩, by simp only [intOf]; omega⟩
          · by_cases e : i = k
            · rw [e]; exact HOK1.out
            · exact HOK.out i (by omega)
          · rw [rowsF_step HX.out, ← HF.out]; exact hM1
          · exact HB.out.grown hg1 HB.out.size (fun j hj => by cases hj; exact Nat.le_of_eq HZ.out.symm)
    · have hkn : k = ws.length := by omega
      subst hkn
      have HBD : Hid (firstBad (badW ws) ws.length = (0, 0)) := firstBad_none HOK.out
      clear hM hbr
      go_wp2_with fail
      exact bodyPost_ret (v := .tuple #[.int .i64 0, .int .i64 0]) (by simp [results, Tryz.results55, go_sem]) rfl ⟨by rw [HE.out, HBD.out]; rfl, HB.out⟩
end Go.Proofs.YtplmmamebfpcjaaGreatDoor
end
section
/- A region that draws its order, whose operations may call, make memory and hand on values that no one knows beforehand: each operation keeps all that stands (Below); of each a fact about its slots is said ahead (a row), which stays true. The last operations may come one behind the other (they may write). -/
namespace Go.Proofs.YtplmmamebfpcjaaGreatDoor
open Go.RowKit
def mUpon (P : Program) (K : Value → World → Prop) : Result Next → Prop
  | .ok (.value u) w' => K u w'
  | .ok .skip w' => K undef w'
  | .ok (.enter f args) w' => Calls P f args w' fun e w'' => ∃ v, e = .returned v ∧ K v w''
  | _ => False
theorem mUpon_value (P : Program) (K : Value → World → Prop) (u : Value) (w : World) : mUpon P K (.ok (.value u) w) = K u w := rfl
theorem mUpon_skip (P : Program) (K : Value → World → Prop) (w : World) : mUpon P K (.ok .skip w) = K undef w := rfl
theorem mUpon_enter (P : Program) (K : Value → World → Prop) (f : FuncId) (args : Array Value) (w : World) : mUpon P K (.ok (.enter f args) w) = Calls P f args w fun e w'' => ∃ v, e = .returned v ∧ K v w'' := rfl
def depsOf (md : Region.Mode) (o : Oper) : List Nat := (o.after.toList.filter (Region.binds md)).map (·.on)
/-- One operation, by itself: φ holds of what it answers. -/
def mStep (P : Program) (ops : Array Oper) (φ : Value → World → Prop) (o : Oper) (a : Act) (w : World) : Prop :=
  if Region.wanted o (yielded ops a.tmps) then mUpon P (fun v w' => Below w.heap.size w w' ∧ φ v w') ((execOp a.eval o).run P w) else φ undef w
/-- The frame, its slots filled one by one, and what holds of them. -/
def finV : List Nat → List (Value → World → Prop) → Act → World → (Act → Prop) → Prop
  | d :: ds, φ :: T, a, w, p => ∀ u, φ u w → finV ds T (a.put (some d) u) w p
  | _, _, a, _, p => p a
structure FrameEq (ds : List Nat) (a0 a : Act) : Prop where
  defers : a.defers = a0.defers
  size : a.tmps.size = a0.tmps.size
  slot : ∀ k, k ∉ ds → a.tmps[k]? = a0.tmps[k]?
theorem FrameEq.refl (ds : List Nat) (a : Act) : FrameEq ds a a := ⟨rfl, rfl, fun _ _ => rfl⟩
theorem FrameEq.put {ds : List Nat} {a0 a : Act} (h : FrameEq ds a0 a) {d : Option Nat} (hd : ∀ k, d = some k → k ∈ ds) (v : Value) : FrameEq ds a0 (a.put d v) := by
  cases d with
  | none => exact h
  | some d =>
    refine ⟨h.defers, by simpa [Act.put] using h.size, fun k hk => ?_⟩
    have hne : d ≠ k := fun e => hk (e ▸ hd d rfl)
    simp only [Act.put]
    rw [Array.getElem?_setIfInBounds_ne hne]
    exact h.slot k hk
theorem FrameEq.get {ds : List Nat} {a0 a : Act} (h : FrameEq ds a0 a) {k : Nat} (hk : ds.contains k = false) : a.eval (.tmp k) = a0.eval (.tmp k) := by
  have := h.slot k (by simpa using hk)
  simp only [Act.eval, Array.getD_eq_getD_getElem?, this]
theorem finV_of : ∀ (ds : List Nat) (T : List (Value → World → Prop)) {a0 a : Act} {w : World} {p : Act → Prop}, ds.length = T.length → finV ds T a0 w p → FrameEq ds a0 a → (∀ (i : Nat) φ d, T[i]? = some φ → ds[i]? = some d → φ (a.eval (.tmp d)) w) → p a
  | [], [], a0, a, w, p, _, h, he, _ => by
    have : a = a0 := by
      obtain ⟨t, d⟩ := a
      obtain ⟨t0, d0⟩ := a0
      obtain ⟨h1, h2, h3⟩ := he
      simp only at h1 h2 h3
      subst h1
      have : t = t0 := Array.ext_getElem? fun k => h3 k (by simp)
      rw [this]
    rw [this]; exact h
  | [], _ :: _, _, _, _, _, hl, _, _, _ => by simp at hl
  | _ :: _, [], _, _, _, _, hl, _, _, _ => by simp at hl
  | d :: ds, φ :: T, a0, a, w, p, hl, h, he, hr => by
    refine finV_of ds T (a0 := a0.put (some d) (a.eval (.tmp d))) (by simpa using hl) (h _ (hr 0 φ d (by simp) (by simp))) ⟨he.defers, by simpa [Act.put] using he.size, fun k hk => ?_⟩ (fun i φ' d' h1 h2 => hr (i + 1) φ' d' (by simpa using h1) (by simpa using h2))
    simp only [Act.put]
    by_cases hkd : d = k
    · subst hkd
      rw [Array.getElem?_setIfInBounds]
      simp only [if_true]
      by_cases hlt : d < a0.tmps.size
      · rw [if_pos hlt]
        have hlt' : d < a.tmps.size := by rw [he.size]; exact hlt
        simp [hlt', Act.eval]
      · rw [if_neg hlt]
        exact Array.getElem?_eq_none (by rw [he.size]; omega)
    · rw [Array.getElem?_setIfInBounds_ne hkd]
      exact he.slot k (by simp only [List.mem_cons, not_or]; exact ⟨fun e => hkd e.symm, hk⟩)
section
variable {P : Program} {ops : Array Oper} {md : Region.Mode}
def rowAt (T : List (Value → World → Prop)) (ds : List Nat) (i : Nat) (a : Act) (w : World) : Prop := ∀ φ d, T[i]? = some φ → ds[i]? = some d → φ (a.eval (.tmp d)) w
def stepsM (P : Program) (md : Region.Mode) (ops : Array Oper) (T : List (Value → World → Prop)) (ds : List Nat) (a0 : Act) (W : World) : List (Value → World → Prop) → List Oper → Prop
  | φ :: rs, o :: os => (∀ a, FrameEq ds a0 a → ∀ w, Below W.heap.size W w → (∀ j, (depsOf md o).contains j = true → rowAt T ds j a w) → mStep P ops φ o a w) ∧ stepsM P md ops T ds a0 W rs os
  | _, _ => True
theorem stepsM_get {T : List (Value → World → Prop)} {ds : List Nat} {a0 : Act} {W : World} : ∀ {rs : List (Value → World → Prop)} {os : List Oper}, stepsM P md ops T ds a0 W rs os → ∀ (i : Nat) φ o, rs[i]? = some φ → os[i]? = some o →
    (∀ a, FrameEq ds a0 a → ∀ w, Below W.heap.size W w → (∀ j, (depsOf md o).contains j = true → rowAt T ds j a w) → mStep P ops φ o a w)
  | [], _, _, i, r, o, hr, _ => by simp at hr
  | _ :: _, [], _, i, r, o, _, ho => by simp at ho
  | _ :: rs, _ :: os, h, 0, r, o, hr, ho => by
    simp only [List.getElem?_cons_zero, Option.some.injEq] at hr ho
    subst hr; subst ho
    exact h.1
  | _ :: rs, _ :: os, h, i + 1, r, o, hr, ho => stepsM_get h.2 i r o (by simpa using hr) (by simpa using ho)
def nodupB : List Nat → Bool
  | [] => true
  | d :: ds => !ds.contains d && nodupB ds
theorem nodupB_spec : ∀ {ds : List Nat}, nodupB ds = true → ∀ (i j d : Nat), ds[i]? = some d → ds[j]? = some d → i = j
  | [], _, i, _, d, h, _ => by simp at h
  | x :: ds, hB, i, j, d, hi, hj => by
    simp only [nodupB, Bool.and_eq_true, Bool.not_eq_true', List.contains_eq_mem, decide_eq_false_iff_not] at hB
    cases i with
    | zero =>
      cases j with
      | zero => rfl
      | succ j =>
        simp only [List.getElem?_cons_zero, Option.some.injEq] at hi
        subst hi
        exact absurd (List.mem_of_getElem? (by simpa using hj)) hB.1
    | succ i =>
      cases j with
      | zero =>
        simp only [List.getElem?_cons_zero, Option.some.injEq] at hj
        subst hj
        exact absurd (List.mem_of_getElem? (by simpa using hi)) hB.1
      | succ j => rw [nodupB_spec hB.2 i j d (by simpa using hi) (by simpa using hj)]
/-- What lies behind the head waits for it. -/
def tailB (md : Region.Mode) (ops : Array Oper) (n k : Nat) : Bool :=
  (List.range ops.size).all fun t => decide (t < k) || ((List.range n).all fun i => Region.waitsFor md ops t i) || (List.range t).any fun j => decide (k ≤ j) && Region.waitsFor md ops t j
/-- What is asked of the region's text. -/
def monoB (md : Region.Mode) (ops : Array Oper) (n k : Nat) (ds : List Nat) : Bool :=
  decide (ds.length = n) && decide (n ≤ k) && decide (k ≤ ops.size) && tailB md ops n k &&
  Region.seqB md ops (ops.size - k) k (Array.replicate k true ++ Array.replicate (ops.size - k) false) && nodupB ds &&
  ((List.range n).all fun i => match ops[i]? with
    | some o => (depsOf md o).all (fun j => decide (j < i)) && decide (o.dst = ds[i]?)
    | none => false)
def cntU : Nat → Array Bool → Nat
  | 0, _ => 0
  | n + 1, l => cntU n l + if l.getD n false = true then 0 else 1
theorem cntU_replicate (n m : Nat) : cntU n (Array.replicate m false) = n := by
  induction n with
  | zero => rfl
  | succ n ih => simp only [cntU]; rw [ih, getD_replicate_false]; simp
theorem cntU_above (n i : Nat) (l : Array Bool) (h : n ≤ i) : cntU n (l.setIfInBounds i true) = cntU n l := by
  induction n with
  | zero => rfl
  | succ n ih => simp only [cntU]; rw [ih (by omega), getD_set_ne false (by omega)]
theorem cntU_set (n i : Nat) (l : Array Bool) (hi : i < n) (hs : i < l.size) (hu : l.getD i false = false) : cntU n (l.setIfInBounds i true) + 1 = cntU n l := by
  induction n with
  | zero => omega
  | succ n ih =>
    simp only [cntU]
    by_cases h : i = n
    · subst h
      rw [cntU_above _ _ _ (Nat.le_refl _), hu]
      have : (l.setIfInBounds i true).getD i false = true := by simp [hs]
      rw [this]
      simp
    · rw [getD_set_ne false h]
      have := ih (by omega)
      omega
theorem cntU_zero (n : Nat) (l : Array Bool) (h : cntU n l = 0) : ∀ i, i < n → l.getD i false = true := by
  induction n with
  | zero => intro i hi; omega
  | succ n ih =>
    intro i hi
    simp only [cntU] at h
    by_cases hin : i = n
    · subst hin
      by_cases hc : l.getD i false = true
      · exact hc
      · rw [if_neg hc] at h; omega
    · exact ih (by omega) i (by omega)
theorem cntU_pos (n : Nat) (l : Array Bool) (h : cntU n l ≠ 0) : ∃ i, i < n ∧ l.getD i false = false ∧ ∀ j, j < i → l.getD j false = true := by
  induction n with
  | zero => exact absurd rfl h
  | succ n ih =>
    by_cases h0 : cntU n l = 0
    · simp only [cntU] at h
      refine ⟨n, by omega, ?_, cntU_zero n l h0⟩
      cases hc : l.getD n false with
      | false => rfl
      | true => rw [if_pos hc] at h; omega
    · obtain ⟨i, h1, h2, h3⟩ := ih h0
      exact ⟨i, by omega, h2, h3⟩
theorem mem_depsOf {o : Oper} {e : Edge} (he : e ∈ o.after) (hb : Region.binds md e = true) : e.on ∈ depsOf md o := by
  unfold depsOf
  rw [List.mem_map]
  exact ⟨e, List.mem_filter.2 ⟨by simpa using he, hb⟩, rfl⟩
structure MInv (md : Region.Mode) (ops : Array Oper) (n k : Nat) (T : List (Value → World → Prop)) (ds : List Nat) (a0 : Act) (W : World) (listed : Array Bool) (a : Act) (w : World) : Prop where
  size : listed.size = ops.size
  pre : ∀ t, n ≤ t → t < k → listed.getD t false = true
  tail : ∀ t, k ≤ t → t < ops.size → listed.getD t true = false
  bel : Below W.heap.size W w
  frame : FrameEq ds a0 a
  rows : ∀ (i : Nat), i < n → listed.getD i false = true → rowAt T ds i a w
theorem wpAny_mono {n k : Nat} {T : List (Value → World → Prop)} {ds : List Nat} {a0 : Act} {W : World} {l : List Oper} {Q : Exit → Act → World → Prop} (hl : l.toArray = ops) (hT : T.length = n) (hB : monoB md ops n k ds = true)
    (hin0 : ∀ d ∈ ds, d < a0.tmps.size) (hst : ∀ φ ∈ T, ∀ v w w', Below w.heap.size w w' → φ v w → φ v w') (hs : stepsM P md ops T ds a0 W T l)
    (hf : ∀ a, FrameEq ds a0 a → ∀ w, Below W.heap.size W w → (∀ (i : Nat), rowAt T ds i a w) → wpList P ops Q (l.drop k) a w) :
    ∀ (m : Nat) (listed : Array Bool) (a : Act) (w : World), cntU n listed = m → MInv md ops n k T ds a0 W listed a w → wpAny P md ops Q (m + (ops.size - k)) listed a w := by
  unfold monoB at hB
  simp only [Bool.and_eq_true, decide_eq_true_eq] at hB
  obtain ⟨⟨⟨⟨⟨⟨hlen, hnk⟩, hk⟩, htail⟩, hseq⟩, hnd⟩, hops⟩ := hB
  have hn : n ≤ ops.size := Nat.le_trans hnk hk
  have hlsz : l.length = ops.size := by rw [← hl]; simp
  intro m
  induction m with
  | zero =>
    intro listed a w hc inv
    have hall := cntU_zero n listed hc
    have hli : listed = Array.replicate k true ++ Array.replicate (ops.size - k) false := by
      refine Array.ext (by rw [inv.size]; simp; omega) fun i h1 h2 => ?_
      have hi : i < ops.size := by rw [← inv.size]; exact h1
      by_cases hik : i < k
      · have : listed.getD i false = true := by
          by_cases hin : i < n
          · exact hall i hin
          · exact inv.pre i (by omega) hik
        rw [Array.getElem_append_left (by simpa using hik)]
        simp [h1] at this
        simp [this]
      · have := inv.tail i (by omega) hi
        rw [Array.getElem_append_right (by simp; omega)]
        simp [h1] at this
        simp [this]
    rw [Nat.zero_add]
    have := wpAny_of_seq (P := P) (md := md) (ops := ops) (Q' := Q) (l.drop k) k listed a w (fun j => by rw [← hl]; simp) (by
      rw [List.length_drop, hlsz, hli]; exact hseq) (hf a inv.frame w inv.bel fun i φ d hr hd => by
        have hin : i < n := by
          have := (List.getElem?_eq_some_iff.1 hr).1
          omega
        exact inv.rows i hin (hall i hin) φ d hr hd)
    rwa [List.length_drop, hlsz] at this
  | succ m ih =>
    intro listed a w hc inv
    rw [show m + 1 + (ops.size - k) = (m + (ops.size - k)) + 1 by omega]
    refine ⟨fun h0 => ?_, fun i hi => ?_⟩
    · exfalso
      obtain ⟨i, h1, h2, h3⟩ := cntU_pos n listed (by omega)
      have hio := List.all_eq_true.1 hops i (List.mem_range.2 h1)
      obtain ⟨o, ho⟩ : ∃ o, ops[i]? = some o := ⟨_, Array.getElem?_eq_getElem (by omega)⟩
      rw [ho] at hio
      simp only [Bool.and_eq_true] at hio
      have : i ∈ Region.ready md ops listed := mem_ready.2 ⟨getD_in (by rw [inv.size]; omega) h2, o, ho, fun e he hb => h3 _ (by
        have := List.all_eq_true.1 hio.1 e.on (mem_depsOf he hb)
        simpa using this)⟩
      rw [h0] at this
      cases this
    · obtain ⟨hun, o, ho, hdep⟩ := mem_ready.1 hi
      have hunf := getD_both hun
      have hisz := (Array.getElem?_eq_some_iff.1 ho).1
      have hik : i < n ∨ k ≤ i := by
        rcases Nat.lt_or_ge i n with h | h
        · exact .inl h
        · rcases Nat.lt_or_ge i k with h' | h'
          · have := inv.pre i h h'
            rw [hunf] at this; cases this
          · exact .inr h'
      have hin : i < n := by
        rcases hik with h | h
        · exact h
        · exfalso
          obtain ⟨q, h1, h2, h3⟩ := cntU_pos n listed (by omega)
          have ht := List.all_eq_true.1 htail i (List.mem_range.2 hisz)
          simp only [Bool.or_eq_true, decide_eq_true_eq] at ht
          rcases ht with (ht | ht) | ht
          · omega
          · obtain ⟨oj, hoj, e, he, hb, hon⟩ := Region.waitsFor_spec (List.all_eq_true.1 ht q (List.mem_range.2 h1))
            obtain rfl : oj = o := Option.some.inj (hoj.symm.trans ho)
            have := hdep e he hb
            rw [hon, h2] at this
            cases this
          · obtain ⟨j, hj, hj2⟩ := List.any_eq_true.1 ht
            simp only [Bool.and_eq_true, decide_eq_true_eq] at hj2
            obtain ⟨oj, hoj, e, he, hb, hon⟩ := Region.waitsFor_spec hj2.2
            obtain rfl : oj = o := Option.some.inj (hoj.symm.trans ho)
            have := hdep e he hb
            have hjl := List.mem_range.1 hj
            rw [hon, getD_both (inv.tail j hj2.1 (by omega))] at this
            cases this
      obtain ⟨φ, hr⟩ : ∃ φ, T[i]? = some φ := ⟨_, List.getElem?_eq_getElem (by omega)⟩
      obtain ⟨d, hd⟩ : ∃ d, ds[i]? = some d := ⟨_, List.getElem?_eq_getElem (by omega)⟩
      have hio := List.all_eq_true.1 hops i (List.mem_range.2 hin)
      rw [ho] at hio
      simp only [Bool.and_eq_true, decide_eq_true_eq] at hio
      have hod : o.dst = some d := hio.2.trans hd
      have hlo : l[i]? = some o := by rw [← ho, ← hl]; simp
      have hstep := stepsM_get hs i φ o hr hlo a inv.frame w inv.bel (fun j hj => by
        have hji : j < i := by
          have := List.all_eq_true.1 hio.1 j (by simpa using hj)
          simpa using this
        refine inv.rows j (by omega) ?_
        unfold depsOf at hj
        simp only [List.contains_iff_mem, List.mem_map, List.mem_filter] at hj
        obtain ⟨e, ⟨he, hb⟩, rfl⟩ := hj
        exact hdep e (by simpa using he) hb)
      have hdm : d ∈ ds := List.mem_of_getElem? hd
      have hsz : d < a.tmps.size := by rw [inv.frame.size]; exact hin0 d hdm
      have hnext : ∀ v w', Below w.heap.size w w' → φ v w' → MInv md ops n k T ds a0 W (listed.setIfInBounds i true) (a.put o.dst v) w' := fun v w' hb hrv => by
        rw [hod]
        refine ⟨by simp [inv.size], fun t h1 h2 => getD_set_true (inv.pre t h1 h2), fun t h1 h2 => by rw [getD_set_ne true (by omega)]; exact inv.tail t h1 h2, inv.bel.trans (hb.mono inv.bel.size), inv.frame.put (fun k hk => (Option.some.inj hk) ▸ hdm) v, fun j hjn hjl ψ d' hr' hd' => ?_⟩
        by_cases hji : j = i
        · subst hji
          obtain rfl : ψ = φ := Option.some.inj (hr'.symm.trans hr)
          obtain rfl : d' = d := Option.some.inj (hd'.symm.trans hd)
          have : (a.put (some d') v).eval (.tmp d') = v := by simp [Act.eval, Act.put, hsz]
          rw [this]
          exact hrv
        · rw [getD_set_ne false (fun e => hji e.symm)] at hjl
          have h0 := inv.rows j hjn hjl ψ d' hr' hd'
          have h1 := hst ψ (List.mem_of_getElem? hr') _ w w' hb h0
          rw [Act.eval_put fun k hk e => ?_]
          · exact h1
          · cases e
            obtain rfl := Option.some.inj hk
            exact hji (nodupB_spec hnd j i _ hd' hd)
      have hcs : cntU n (listed.setIfInBounds i true) = m := by
        have := cntU_set n i listed hin (by rw [inv.size]; omega) hunf
        omega
      unfold wpOp
      simp only [ho]
      unfold mStep at hstep
      by_cases hw : Region.wanted o (yielded ops a.tmps) = true
      · rw [if_pos hw] at hstep ⊢
        refine .inl ?_
        unfold Oper.wp
        generalize (execOp a.eval o).run P w = res at *
        cases res with
        | ok nx w' =>
          cases nx <;> simp only [mUpon] at hstep <;> simp only [Oper.upon]
          case value u => exact ih _ _ _ hcs (hnext u w' hstep.1 hstep.2)
          case skip => exact ih _ _ _ hcs (hnext undef w' hstep.1 hstep.2)
          case enter f args =>
            refine hstep.mono ?_
            rintro e w'' ⟨v, rfl, h1, h2⟩
            exact ih _ _ _ hcs (hnext v w'' h1 h2)
        | halt x w' => simp only [mUpon] at hstep
      · rw [if_neg hw] at hstep ⊢
        exact ih _ _ _ hcs (hnext undef w (Below.refl _ _) hstep)
theorem mStep_val {φ : Value → World → Prop} {o : Oper} {a : Act} {w w' : World} {v : Value} (hg : o.guard = none) (hrun : (execOp a.eval o).run P w = .ok (.value v) w') (hb : Below w.heap.size w w') (h : φ v w') : mStep P ops φ o a w := by
  unfold mStep
  rw [if_pos (by simp [Region.wanted, hg]), hrun]
  exact ⟨hb, h⟩
theorem mStep_read {φ : Value → World → Prop} {o : Oper} {a : Act} {w : World} {v : Value} (hg : o.guard = none) (hrun : (execOp a.eval o).run P w = .ok (.value v) w) (h : φ v w) : mStep P ops φ o a w := mStep_val hg hrun (Below.refl _ _) h
theorem mStep_call {φ : Value → World → Prop} {o : Oper} {a : Act} {w : World} {f : FuncId} {args : Array Value} (hg : o.guard = none) (hrun : (execOp a.eval o).run P w = .ok (.enter f args) w) (hc : Calls P f args w fun e w' => ∃ v, e = .returned v ∧ Below w.heap.size w w' ∧ φ v w') : mStep P ops φ o a w := by
  unfold mStep
  rw [if_pos (by simp [Region.wanted, hg]), hrun]
  exact hc
theorem getD_some {t : Array Value} {d : Nat} {b : Bool} (h : t.getD d undef = .bool b) : t[d]? = some (.bool b) := by
  rw [Array.getD_eq_getD_getElem?] at h
  cases hq : t[d]? with
  | none => rw [hq] at h; simp [undef] at h
  | some v => rw [hq] at h; simp at h; rw [h]
/-- Behind a guard that lets it by. -/
theorem mStep_on {φ : Value → World → Prop} {o og : Oper} {a : Act} {w : World} {g d : Nat} {b : Bool} (hg : o.guard = some (g, b)) (ho : ops[g]? = some og) (hd : og.dst = some d) (hv : a.eval (.tmp d) = .bool b) (h : mUpon P (fun v w' => Below w.heap.size w w' ∧ φ v w') ((execOp a.eval o).run P w)) : mStep P ops φ o a w := by
  have hv' := getD_some hv
  unfold mStep
  rw [if_pos (by simp [Region.wanted, hg, yielded, ho, hd, hv'])]
  exact h
theorem mStep_off {φ : Value → World → Prop} {o og : Oper} {a : Act} {w : World} {g d : Nat} {b c : Bool} (hg : o.guard = some (g, b)) (ho : ops[g]? = some og) (hd : og.dst = some d) (hv : a.eval (.tmp d) = .bool c) (hbc : c ≠ b) (h : φ undef w) : mStep P ops φ o a w := by
  have hv' := getD_some hv
  unfold mStep
  rw [if_neg (by simp [Region.wanted, hg, yielded, ho, hd, hv', hbc])]
  exact h
theorem mStep_val_on {φ : Value → World → Prop} {o og : Oper} {a : Act} {w w' : World} {g d : Nat} {b : Bool} {v : Value} (hg : o.guard = some (g, b)) (ho : ops[g]? = some og) (hd : og.dst = some d) (hv : a.eval (.tmp d) = .bool b) (hrun : (execOp a.eval o).run P w = .ok (.value v) w') (hb : Below w.heap.size w w') (h : φ v w') : mStep P ops φ o a w :=
  mStep_on hg ho hd hv (by rw [hrun]; exact ⟨hb, h⟩)
theorem mStep_read_on {φ : Value → World → Prop} {o og : Oper} {a : Act} {w : World} {g d : Nat} {b : Bool} {v : Value} (hg : o.guard = some (g, b)) (ho : ops[g]? = some og) (hd : og.dst = some d) (hv : a.eval (.tmp d) = .bool b) (hrun : (execOp a.eval o).run P w = .ok (.value v) w) (h : φ v w) : mStep P ops φ o a w :=
  mStep_val_on hg ho hd hv hrun (Below.refl _ _) h
theorem mStep_call_on {φ : Value → World → Prop} {o og : Oper} {a : Act} {w : World} {g d : Nat} {b : Bool} {f : FuncId} {args : Array Value} (hg : o.guard = some (g, b)) (ho : ops[g]? = some og) (hd : og.dst = some d) (hv : a.eval (.tmp d) = .bool b) (hrun : (execOp a.eval o).run P w = .ok (.enter f args) w) (hc : Calls P f args w fun e w' => ∃ v, e = .returned v ∧ Below w.heap.size w w' ∧ φ v w') : mStep P ops φ o a w :=
  mStep_on hg ho hd hv (by rw [hrun]; exact hc)
/-- A row whose value is known. -/
def qR (v : Value) : Value → World → Prop := fun u _ => u = v
/-- THE LAW. -/
theorem wp_region_mono {id : Nat} {Q : Exit → Act → World → Prop} {a0 : Act} {w : World} {l : List Oper} (n : Nat) (ds : List Nat) (T : List (Value → World → Prop)) (hm : P.follows .mixedOrders = true) (hB : monoB .any l.toArray n n ds = true) (hT : T.length = n)
    (hin0 : (ds.all fun d => decide (d < a0.tmps.size)) = true) (hst : ∀ φ ∈ T, ∀ v w w', Below w.heap.size w w' → φ v w → φ v w') (hs : stepsM P .any l.toArray T ds a0 w.drew T l)
    (hf : ∀ w', Below w.heap.size w.drew w' → finV ds T a0 w' fun a => wpList P l.toArray Q (l.drop n) a w') : (Code.region id l.toArray true).wp P Q a0 w := by
  refine wp_region_any hm ?_
  have hn : n ≤ l.toArray.size ∧ ds.length = n := by
    unfold monoB at hB
    simp only [Bool.and_eq_true, decide_eq_true_eq] at hB
    exact ⟨hB.1.1.1.1.2, hB.1.1.1.1.1.1⟩
  have := wpAny_mono (P := P) (md := .any) (Q := Q) (a0 := a0) (W := w.drew) rfl hT hB (fun d hd => by simpa using List.all_eq_true.1 hin0 d hd) hst hs (fun a he w' hb hr => finV_of ds T (by rw [hT]; exact hn.2) (hf w' hb) he fun i φ d h1 h2 => hr i φ d h1 h2) n (Array.replicate l.toArray.size false) a0 w.drew (cntU_replicate _ _)
    ⟨by simp, fun t h1 h2 => by omega, fun t _ ht => getD_in (by simpa using ht) (getD_replicate_false _ _), Below.refl _ _, FrameEq.refl _ _, fun i _ h => (by rw [getD_replicate_false] at h; cases h)⟩
  rw [show n + (l.toArray.size - n) = l.toArray.size by omega] at this
  exact this
/-- THE LAW, where the operation behind the head but moves a slot's value on: nothing of the tail need wait for it. -/
theorem wp_region_mono_move {id : Nat} {Q : Exit → Act → World → Prop} {a0 : Act} {w : World} {l : List Oper} (n : Nat) (ds : List Nat) (T : List (Value → World → Prop)) {o : Oper} {x : Operand} (ho : l[n]? = some o) (hop : o.op = .move x) (hg : o.guard = none) (hm : P.follows .mixedOrders = true) (hB : monoB .any l.toArray n (n + 1) ds = true) (hT : T.length = n)
    (hsel : Region.noSelect l.toArray = true) (hfr : Region.free .any l.toArray (Array.replicate l.toArray.size false) n = true) (hrd : (Region.ready .any l.toArray (Array.replicate l.toArray.size false)).contains n = true)
    (hQ : ∀ c (a' : Act) w v, Q (.panic c) (a'.put o.dst v) w → Q (.panic c) a' w)
    (hin0 : (ds.all fun d => decide (d < a0.tmps.size)) = true) (hst : ∀ φ ∈ T, ∀ v w w', Below w.heap.size w w' → φ v w → φ v w') (hs : stepsM P .any l.toArray T ds (a0.put o.dst (a0.eval x)) w.drew T l)
    (hf : ∀ w', Below w.heap.size w.drew w' → finV ds T (a0.put o.dst (a0.eval x)) w' fun a => wpList P l.toArray Q (l.drop (n + 1)) a w') : (Code.region id l.toArray true).wp P Q a0 w := by
  refine wp_region_any hm ?_
  have hn : n + 1 ≤ l.toArray.size ∧ ds.length = n := by
    unfold monoB at hB
    simp only [Bool.and_eq_true, decide_eq_true_eq] at hB
    exact ⟨hB.1.1.1.1.2, hB.1.1.1.1.1.1⟩
  have hsz : ∀ v, (a0.put o.dst v).tmps.size = a0.tmps.size := fun v => by cases o.dst <;> simp [Act.put]
  have h := wpAny_mono (P := P) (md := .any) (Q := Q) (a0 := a0.put o.dst (a0.eval x)) (W := w.drew) (k := n + 1) rfl hT hB (fun d hd => by rw [hsz]; simpa using List.all_eq_true.1 hin0 d hd) hst hs (fun a he w' hb hr => finV_of ds T (by rw [hT]; exact hn.2) (hf w' hb) he fun i φ d h1 h2 => hr i φ d h1 h2) n ((Array.replicate l.toArray.size false).setIfInBounds n true) (a0.put o.dst (a0.eval x)) w.drew (by rw [cntU_above _ _ _ (Nat.le_refl _), cntU_replicate])
    ⟨by simp, fun t h1 h2 => (by
      obtain rfl : t = n := by omega
      simp at hn
      simp
      omega), fun t h1 h2 => (by rw [getD_set_ne true (by omega)]; exact getD_in (by simpa using h2) (getD_replicate_false _ _)), Below.refl _ _, FrameEq.refl _ _, fun i hi h => (by rw [getD_set_ne false (by omega), getD_replicate_false] at h; cases h)⟩
  have h3 := wpAny_take (md := .any) (i := n) (oi := o) (v := a0.eval x) (by simpa using ho) hsel hfr hrd (fun c a' w' hq => hQ c a' w' _ hq) (by
    refine .inl ⟨by simp [Region.wanted, hg], fun w' => ?_⟩
    simp [execOp, hop, Sem.run_pure]) h
  rw [show n + (l.toArray.size - (n + 1)) + 1 = l.toArray.size by omega] at h3
  exact h3
end
end Go.Proofs.YtplmmamebfpcjaaGreatDoor
end
