import Derived.Test.YtonbfcpbgkpbaaaGreatDoorJ15
section
/- tesseraref7.right asks what Print asks: the mathematics. -/
namespace Go.Proofs.YtonbfcpbgkpbaaaGreatDoor
open Go.RowKit Go.Sort Go.Joins
set_option linter.unusedVariables false
set_option linter.unusedSimpArgs false
set_option maxRecDepth 100000
theorem inj_unlike {ws : List ByteArray} (h : ∀ i j, i < j → j < ws.length → ws.getD i ⟨#[]⟩ ≠ ws.getD j ⟨#[]⟩) : unlikeF ws = true := by
  have hk : ∀ n, n ≤ ws.length → dcn ws n = n := by
    intro n
    induction n with
    | zero => intro _; rfl
    | succ n ih =>
      intro hn
      have hm : memB (ws.take n) (ws.getD n ⟨#[]⟩) = false := by
        unfold memB
        rw [List.any_eq_false]
        intro z hz he
        obtain ⟨i, hi⟩ := List.getElem?_of_mem hz
        have hin : i < n := by
          have := (List.getElem?_eq_some_iff.1 hi).1
          rw [List.length_take] at this
          omega
        rw [List.getElem?_take_of_lt hin] at hi
        refine h i n hin (by omega) ?_
        have e : ws.getD n ⟨#[]⟩ = z := of_decide_eq_true he
        rw [e, List.getD, hi]
        rfl
      rw [dcn, hm, ih (by omega)]
      rfl
  unfold unlikeF
  rw [hk _ (Nat.le_refl _)]
  simp
theorem tl_cutOk {ws : List ByteArray} {x : Mg} (h : tl (wordF ws x.i.toNat) = tl (wordF ws x.l.toNat) ++ tl (wordF ws x.r.toNat)) : cutOk ws x = true := by
  have hz : (wordF ws x.l.toNat).size = (tl (wordF ws x.l.toNat)).length := by simp
  have hp : preB (wordF ws x.i.toNat) (wordF ws x.l.toNat) = true := by
    rw [preB_iff, h, hz]
    simp
  unfold cutOk cutP
  rw [if_pos hp]
  simp only [Bool.true_and]
  rw [toList_tl, toList_tl, tl_rest, h, hz]
  simp
/-- What the reference asks of merge j. -/
def rightAt (ws : List ByteArray) (ms : List Mg) (j : Nat) (x : Mg) : Bool :=
  mkF ms j x.l && mkF ms j x.r && decide (256 ≤ x.i) && decide (x.i - 256 < (ws.length : Int)) && !mkF ms j x.i && decide (tl (ws.getD (x.i - 256).toNat ⟨#[]⟩) = tl (wordF ws x.l.toNat) ++ tl (wordF ws x.r.toNat))
def rightN (ws : List ByteArray) (ms : List Mg) (k : Nat) : Prop := ∀ j x, j < k → ms[j]? = some x → rightAt ws ms j x = true
theorem mkF_nat (ms : List Mg) (k : Nat) (id : Int) : mkF ms k id = (decide (0 ≤ id) && mkF ms k ((id.toNat : Nat) : Int)) ∨ id < 0 := by
  by_cases h : 0 ≤ id
  · left
    rw [decide_eq_true h, Bool.true_and, Int.toNat_of_nonneg h]
  · right; omega
theorem rightN_id {ws : List ByteArray} {ms : List Mg} {k : Nat} (h : rightN ws ms k) : ∀ j x, j < k → ms[j]? = some x → 256 ≤ x.i ∧ x.i < 256 + (ws.length : Int) := by
  intro j x hj hx
  have := h j x hj hx
  unfold rightAt at this
  simp only [Bool.and_eq_true, decide_eq_true_eq] at this
  omega
theorem mkF_range {ws : List ByteArray} {ms : List Mg} {k : Nat} (h : rightN ws ms k) {id : Int} (hm : mkF ms k id = true) : 0 ≤ id ∧ id < 256 + (ws.length : Int) := by
  unfold mkF at hm
  simp only [Bool.or_eq_true, Bool.and_eq_true, decide_eq_true_eq] at hm
  rcases hm with hm | hm
  · omega
  · rw [List.any_eq_true] at hm
    obtain ⟨x, hx, he⟩ := hm
    obtain ⟨j, hj⟩ := List.getElem?_of_mem hx
    have hjk : j < k := by
      have := (List.getElem?_eq_some_iff.1 hj).1
      rw [List.length_take] at this
      omega
    rw [List.getElem?_take_of_lt hjk] at hj
    have := rightN_id h j x hjk hj
    have e : x.i = id := by simpa using he
    omega
theorem mkF_succ {ms : List Mg} {k : Nat} {x : Mg} (hx : ms[k]? = some x) (id : Int) : mkF ms (k + 1) id = (mkF ms k id || decide (x.i = id)) := by
  unfold mkF
  rw [List.take_add_one, hx, Option.toList_some, List.any_append, List.any_cons, List.any_nil, Bool.or_false, ← Bool.or_assoc]
  congr 1
theorem made_right {ws : List ByteArray} {ms : List Mg} (hl : ws.length = ms.length) : ∀ (d k : Nat) (M : Nat → Bool), k + d = ms.length → rightN ws ms k → (∀ i : Nat, M i = mkF ms k (i : Int)) →
    (madeF ws (256 + ms.length) (ms.drop k) M = true ↔ rightN ws ms ms.length)
  | 0, k, M, hk, hR, hM => by
    rw [List.drop_of_length_le (by omega)]
    rw [show k = ms.length by omega] at hR
    exact ⟨fun _ => hR, fun _ => rfl⟩
  | d + 1, k, M, hk, hR, hM => by
    obtain ⟨x, hx⟩ : ∃ x, ms[k]? = some x := ⟨_, List.getElem?_eq_getElem (by omega)⟩
    have hd : ms.drop k = x :: ms.drop (k + 1) := by
      have hkl : k < ms.length := by omega
      rw [List.drop_eq_getElem_cons hkl]
      rw [List.getElem?_eq_getElem hkl] at hx
      rw [Option.some.inj hx]
    rw [hd, madeF_cons]
    have hbase : ∀ id : Int, isMadeF (256 + ms.length) M id = mkF ms k id := by
      intro id
      unfold isMadeF
      by_cases h0 : 0 ≤ id
      · rw [hM, Int.toNat_of_nonneg h0, decide_eq_true h0, Bool.true_and]
        cases hm : mkF ms k id with
        | false => simp
        | true =>
          have := mkF_range hR hm
          rw [decide_eq_true (by omega)]
          rfl
      · rw [decide_eq_false h0]
        cases hm : mkF ms k id with
        | false => rfl
        | true =>
          have := mkF_range hR hm
          omega
    have hone : (newId (256 + ms.length) M x.i = true ∧ isMadeF (256 + ms.length) M x.l = true ∧ isMadeF (256 + ms.length) M x.r = true ∧ cutOk ws x = true) ↔ rightAt ws ms k x = true := by
      rw [hbase, hbase]
      unfold rightAt newId
      simp only [Bool.and_eq_true, decide_eq_true_eq, Bool.not_eq_true']
      rw [hM]
      constructor
      · rintro ⟨⟨⟨h1, h2⟩, h3⟩, h4, h5, h6⟩
        rw [Int.toNat_of_nonneg h1] at h3
        have h7 : 256 ≤ x.i := by
          apply Classical.byContradiction
          intro hn
          have : mkF ms k x.i = true := by
            unfold mkF
            rw [decide_eq_true h1, decide_eq_true (by omega : x.i < 256)]
            rfl
          rw [this] at h3
          cases h3
        refine ⟨⟨⟨⟨⟨h4, h5⟩, h7⟩, by omega⟩, h3⟩, ?_⟩
        have := cutOk_tl h6
        rw [word_hi (by omega : 256 ≤ x.i.toNat)] at this
        rw [← this, show (x.i - 256).toNat = x.i.toNat - 256 by omega]
      · rintro ⟨⟨⟨⟨⟨h4, h5⟩, h7⟩, h2⟩, h3⟩, h6⟩
        have h1 : 0 ≤ x.i := by omega
        refine ⟨⟨⟨h1, by omega⟩, by rw [Int.toNat_of_nonneg h1]; exact h3⟩, h4, h5, tl_cutOk ?_⟩
        rw [word_hi (by omega : 256 ≤ x.i.toNat), ← h6, show (x.i - 256).toNat = x.i.toNat - 256 by omega]
    by_cases hc : rightAt ws ms k x = true
    · rw [if_pos (hone.2 hc)]
      have hR2 : rightN ws ms (k + 1) := by
        intro j y hj hy
        by_cases e : j = k
        · subst e
          rw [hx] at hy
          cases hy
          exact hc
        · exact hR j y (by omega) hy
      refine made_right hl d (k + 1) _ (by omega) hR2 ?_
      intro i
      rw [mkF_succ hx, hM]
      have hxi : 256 ≤ x.i := by
        have := rightN_id hR2 k x (by omega) hx
        omega
      rw [Bool.or_comm]
      congr 1
      rw [Bool.eq_iff_iff, decide_eq_true_eq, decide_eq_true_eq]
      omega
    · rw [if_neg (fun h => hc (hone.1 h))]
      constructor
      · intro h; cases h
      · intro h
        exact absurd (h k x (by omega) hx) hc
/-- What the reference asks of all. -/
theorem right_ok (ws : List ByteArray) (ms : List Mg) : wordsOk ws ms = true ↔ (ws.length = ms.length ∧ (∀ i j, i < j → j < ws.length → ws.getD i ⟨#[]⟩ ≠ ws.getD j ⟨#[]⟩) ∧ rightN ws ms ms.length) := by
  unfold wordsOk
  simp only [Bool.and_eq_true, decide_eq_true_eq]
  constructor
  · rintro ⟨⟨h1, h2⟩, h3⟩
    refine ⟨h1, unlike_inj h2, ?_⟩
    refine (made_right h1 ms.length 0 _ (by omega) (fun j x hj => by omega) (fun i => ?_)).1 (by rw [List.drop_zero]; exact h3)
    unfold mkF
    simp
    omega
  · rintro ⟨h1, h2, h3⟩
    refine ⟨⟨h1, inj_unlike h2⟩, ?_⟩
    have := (made_right h1 ms.length 0 (fun j => decide (j < 256)) (by omega) (fun j x hj => by omega) (fun i => by unfold mkF; simp; omega)).2 h3
    rwa [List.drop_zero] at this
end Go.Proofs.YtonbfcpbgkpbaaaGreatDoor
end
section
/- tesseraref7.right: its contract. -/
namespace Go.Proofs.YtonbfcpbgkpbaaaGreatDoor
open Go.RowKit Go.Sort Go.Joins
set_option linter.unusedVariables false
set_option linter.unusedSimpArgs false
set_option maxRecDepth 100000
def unlN (ws : List ByteArray) (k : Nat) : Prop := ∀ i j, i < j → j < k → ws.getD i ⟨#[]⟩ ≠ ws.getD j ⟨#[]⟩
theorem txt_eq (a b : ByteArray) : (a.toList == b.toList) = decide (a = b) := by
  rw [toList_tl, toList_tl, Bool.eq_iff_iff, beq_iff_eq, decide_eq_true_eq]
  constructor
  · intro h
    have : a.data = b.data := by
      apply Array.ext'
      simpa using h
    cases a; cases b; cases this; rfl
  · rintro rfl; rfl
set_option maxHeartbeats 4000000 in
theorem rright_any (aw am a b c : Option Addr) (nw nm na nb nc cw cm ca cb cc : Nat) (ws : List ByteArray) (ms : List Mg) (w : World) (hnw : nw = ws.length) (hnm : nm = ms.length) (hW : WSP w aw ws) (hM : MSP w am ms) (hws : ws.length ≤ 1048576) (hms : ms.length ≤ 1048576) (hsz : ∀ x ∈ ws, x.size ≤ 1048576) (hi64 : ∀ x ∈ ms, -9223372036854775808 ≤ x.i ∧ x.i ≤ 9223372036854775807) :
    Calls Tryz.prog 22 #[.agg #[.slice aw nw cw, .slice am nm cm, .slice a na ca, .slice b nb cb, .slice c nc cc]] w fun e w' => e = .returned (.bool (wordsOk ws ms)) ∧ Below w.heap.size w w' := by
  have hX := DBox.new w (.slice aw nw cw) (.slice am nm cm) (.slice a na ca) (.slice b nb cb) (.slice c nc cc)
  have hb0 := box_below w (.cells #[.slice aw nw cw, .slice am nm cm, .slice a na ca, .slice b nb cb, .slice c nc cc] 26)
  obtain ⟨Y, hY⟩ : ∃ Y, Y = w.alloc (.cells #[.slice aw nw cw, .slice am nm cm, .slice a na ca, .slice b nb cb, .slice c nc cc] 26) := ⟨_, rfl⟩
  rw [← hY] at hb0 hX
  have HWY := Lib.hid (hW.below hb0)
  have HMY := Lib.hid (hM.below hb0)
  have HB0 := Lib.hid hb0
  have HY := Lib.hid hY
  obtain ⟨z, hz⟩ : ∃ z, z = w.heap.size := ⟨_, rfl⟩
  have HZ := Lib.hid hz
  rw [← hz] at hX
  have HX := Lib.hid hX
  have HNW := Lib.hid hnw
  have HNM := Lib.hid hnm
  have hnwb : nw ≤ 1048576 := by rw [hnw]; exact hws
  have hnmb : nm ≤ 1048576 := by rw [hnm]; exact hms
  have hzY : z < Y.heap.size := World.block_lt_of_cell? Y _ hX.c0
  have HZY := Lib.hid hzY
  have x0 := hX.c0
  have x1 := hX.c1
  have hq := right_ok ws ms
  obtain ⟨R, hR⟩ : ∃ R, R = wordsOk ws ms := ⟨_, rfl⟩
  rw [← hR] at hq ⊢
  have HQ := Lib.hid hq
  have HSZ := Lib.hid hsz
  have HI64 := Lib.hid hi64
  clear hzY hsz hi64 hW hM hb0 hX hz hnw hnm hws hms hY hq hR
  by_cases hne : nw = nm
  · have d0 : ((nw : Int) != (nm : Int)) = false := by simp; omega
    have HNE := Lib.hid hne
    clear hne
    go_enter Tryz.func22, Tryz.ntmps22
    go_upto_region 1 with fail
    rw [← HY.out, ← HZ.out]
    clear HY
    go_wp2_with fail
    go_loopw [3] (fun v wr => ∃ k : Nat, k ≤ nw ∧ v = .int .i64 (k : Nat) ∧ Below Y.heap.size Y wr ∧ unlN ws k) (fun v _ => nw - (intOf v).toNat)
    case atStart => exact ⟨0, Nat.zero_le _, rfl, Below.refl _ _, fun i j _ h => by omega⟩
    case round =>
      obtain ⟨k, hk, rfl, hb, hu⟩ := hrel
      have x0 := (hb.cell (World.block_lt_of_cell? Y _ x0)).trans x0
      have x1 := (hb.cell (World.block_lt_of_cell? Y _ x1)).trans x1
      have HBR := Lib.hid hb
      have HU := Lib.hid hu
      clear hb hu
      by_cases hkn : k < nw
      · have g0 : decide ((k : Int) < (nw : Int)) = true := decide_eq_true (by omega)
        have g1 : decide (k < nw) = true := decide_eq_true hkn
        go_wp2_with fail
        clear g0 g1
        go_loopw [4] (fun v wi => ∃ j : Nat, j ≤ k ∧ v = .int .i64 (j : Nat) ∧ Below Y.heap.size Y wi ∧ ∀ i, i < j → ws.getD i ⟨#[]⟩ ≠ ws.getD k ⟨#[]⟩) (fun v _ => k - (intOf v).toNat)
        case atStart => exact ⟨0, Nat.zero_le _, rfl, HBR.out, fun i h => by omega⟩
        case round =>
          clear x0 x1 HBR
          obtain ⟨j, hj, rfl, hb, hv⟩ := hrel
          have HV := Lib.hid hv
          have x0 := (hb.cell (World.block_lt_of_cell? Y _ HX.out.c0)).trans HX.out.c0
          by_cases hjk : j < k
          · have g0 : decide ((j : Int) < (k : Int)) = true := decide_eq_true (by omega)
            have g1 : decide (j < k) = true := decide_eq_true hjk
            have hkl : k < ws.length := by rw [← HNW.out]; exact hkn
            obtain ⟨bw, ow, rfl, ck⟩ := (HWY.out.below hb).cellAt hkl
            obtain ⟨b2, o2, e2, cj⟩ := (HWY.out.below hb).cellAt (by omega : j < ws.length)
            cases e2
            have ik : 0 ≤ (k : Int) ∧ (k : Int) < (nw : Int) := by omega
            have ij : 0 ≤ (j : Int) ∧ (j : Int) < (nw : Int) := by omega
            have HBR := Lib.hid hb
            obtain ⟨p, hp⟩ : ∃ p, p = ws.getD k ⟨#[]⟩ := ⟨_, rfl⟩
            obtain ⟨q, hq⟩ : ∃ q, q = ws.getD j ⟨#[]⟩ := ⟨_, rfl⟩
            rw [← hp] at ck
            rw [← hq] at cj
            have HP := Lib.hid hp
            have HQQ := Lib.hid hq
            clear hp hq hb hkl hv
            by_cases he : p = q
            · have d1 : (p.toList == q.toList) = true := by rw [txt_eq]; exact decide_eq_true he
              have hr : R = false := by
                cases hb : R with
                | false => rfl
                | true =>
                  refine absurd ?_ ((HQ.out.1 hb).2.1 j k hjk (by rw [← HNW.out]; exact hkn))
                  rw [← HP.out, ← HQQ.out, he]
              have HR := Lib.hid hr
              clear hr he
              go_upto_region 9 with fail
              go_quiet (fail)
              go_wp2_with fail
              go_ret
              exact ⟨by rw [HR.out] <;> rfl, below_drewN (HB0.out.trans (HBR.out.mono HB0.out.size)) nq⟩
            · have d1 : (p.toList == q.toList) = false := by rw [txt_eq]; exact decide_eq_false he
              have HV2 := Lib.hid (show ∀ i, i < j + 1 → ws.getD i ⟨#[]⟩ ≠ ws.getD k ⟨#[]⟩ from fun i hi => by
                by_cases e : i = j
                · rw [e, ← HP.out, ← HQQ.out]
                  exact fun h => he h.symm
                · exact HV.out i (by omega))
              clear he
              go_upto_region 9 with fail
              go_quiet (fail)
              go_wp2_with fail
              go_roundw
              case rel => exact ⟨j + 1, by omega, by go_num, below_drewN HBR.out nq, HV2.out⟩
              case measure => simp only [intOf]; omega
          · have g0 : decide ((j : Int) < (k : Int)) = false := decide_eq_false (by omega)
            have g1 : decide (j < k) = false := decide_eq_false hjk
            have HBR := Lib.hid hb
            have HU2 := Lib.hid (show unlN ws (k + 1) from fun i l hi hl => by
              by_cases e : l = k
              · rw [e]
                exact HV.out i (by omega)
              · exact HU.out i l hi (by omega))
            clear hb hjk hv
            go_wp2_with fail
            go_roundw
            case rel => exact ⟨k + 1, by omega, by go_num, HBR.out, HU2.out⟩
            case measure => simp only [intOf]; omega
      · have g0 : decide ((k : Int) < (nw : Int)) = false := decide_eq_false (by omega)
        have g1 : decide (k < nw) = false := decide_eq_false hkn
        go_wp2_with fail
        have hkw : k = nw := by omega
        have HU2 := Lib.hid (show ∀ i j, i < j → j < ws.length → ws.getD i ⟨#[]⟩ ≠ ws.getD j ⟨#[]⟩ by rw [← HNW.out, ← hkw]; exact HU.out)
        clear g0 g1 hkw hkn
        go_loopw [5] (fun v wi => ∃ j : Nat, j ≤ nm ∧ v = .int .i64 (j : Nat) ∧ Below Y.heap.size Y wi ∧ rightN ws ms j) (fun v _ => nm - (intOf v).toNat)
        case atStart => exact ⟨0, Nat.zero_le _, rfl, HBR.out, fun i x h => by omega⟩
        case round =>
          clear x0 x1 HBR
          obtain ⟨j, hj, rfl, hb, hv⟩ := hrel
          have HV := Lib.hid hv
          have x0 := (hb.cell (World.block_lt_of_cell? Y _ HX.out.c0)).trans HX.out.c0
          have x1 := (hb.cell (World.block_lt_of_cell? Y _ HX.out.c1)).trans HX.out.c1
          by_cases hjk : j < nm
          · have g0 : decide ((j : Int) < (nm : Int)) = true := decide_eq_true (by omega)
            have g1 : decide (j < nm) = true := decide_eq_true hjk
            have hjl : j < ms.length := by rw [← HNM.out]; exact hjk
            obtain ⟨bm, om, rfl, m0, m1, m2⟩ := (HMY.out.below hb).cellsAt hjl
            obtain ⟨x, hx⟩ : ∃ x, x = ms[j] := ⟨_, rfl⟩
            rw [← hx] at m0 m1 m2
            have hxs : ms[j]? = some x := by rw [hx]; exact List.getElem?_eq_getElem hjl
            have hxm := HI64.out x (List.mem_of_getElem? hxs)
            obtain ⟨xl, xr, xi⟩ := x
            dsimp only at m0 m1 m2 hxm
            have HXS := Lib.hid hxs
            have HRF := Lib.hid (show rightAt ws ms j ⟨xl, xr, xi⟩ ≠ true → R = false from fun h => by
              cases hb : R with
              | false => rfl
              | true => exact absurd ((HQ.out.1 hb).2.2 j _ hjl HXS.out) h)
            have ij : 0 ≤ (j : Int) ∧ (j : Int) < (nm : Int) := by omega
            have bx := box_below wr (.cells #[.int .i64 xl, .int .i64 xr, .int .i64 xi] 39)
            have hy := heap_alloc_new wr (.cells #[.int .i64 xl, .int .i64 xr, .int .i64 xi] 39)
            have HB1 := Lib.hid (hb.trans (bx.mono hb.size))
            have hC : ∀ id : Int, ∃ (p : ByteArray) (t : Bool), (t = true → p = wordF ws id.toNat) ∧ t = mkF ms j id ∧ ∀ wx, Below Y.heap.size Y wx → Calls Tryz.prog 24 #[.agg #[.slice aw nw cw, .slice (some ⟨bm, om, none⟩) nm cm, .slice a na ca, .slice b nb cb, .slice c nc cc], .int .i64 (j : Nat), .int .i64 id] wx fun e w' => e = .returned (.tuple #[.string p, .bool t]) ∧ Below wx.heap.size wx w' :=
              fun id => ⟨_, _, fun h => if_pos h, rfl, fun wx hbx => rmade_any aw (some ⟨bm, om, none⟩) a b c nw nm na nb nc cw cm ca cb cc ws ms j id wx HNW.out HNM.out (HWY.out.below hbx) (HMY.out.below hbx) (by omega) (by rw [← HNW.out]; exact hnwb) (by rw [← HNM.out]; exact hnmb) (rightN_id HV.out)⟩
            obtain ⟨pl, bl, hpl, hbl, hCl⟩ := hC xl
            obtain ⟨pr, br, hpr, hbr, hCr⟩ := hC xr
            obtain ⟨pi, bi, hpi, hbi, hCi⟩ := hC xi
            have HPL := Lib.hid hpl
            have HPR := Lib.hid hpr
            have HBL := Lib.hid hbl
            have HBR' := Lib.hid hbr
            have HBI := Lib.hid hbi
            clear hC hpl hpr hpi hbl hbr hbi hv hx hxs
            go_upto_region 15 with fail
            obtain ⟨V, hV⟩ : ∃ V, V = wr.alloc (.cells #[.int .i64 xl, .int .i64 xr, .int .i64 xi] 39) := ⟨_, rfl⟩
            rw [← hV] at hy HB1 ⊢
            obtain ⟨y, hyy⟩ : ∃ y, y = wr.heap.size := ⟨_, rfl⟩
            rw [← hyy] at hy ⊢
            have y0 : V.cell? ⟨y, 0, none⟩ = some (.int .i64 xl) := by rw [cell_of_block hy]; rfl
            have y1 : V.cell? ⟨y, 1, none⟩ = some (.int .i64 xr) := by rw [cell_of_block hy]; rfl
            have y2 : V.cell? ⟨y, 2, none⟩ = some (.int .i64 xi) := by rw [cell_of_block hy]; rfl
            have hD := HX.out.below HB1.out HZY.out
            have z0 := hD.c0
            have z1 := hD.c1
            have z2 := hD.c2
            have z3 := hD.c3
            have z4 := hD.c4
            clear bx hV hyy m0 m1 m2 hy x0 x1 hb hjl hD g0 g1
            go_wp2_with fail
            refine (hCl V HB1.out).mono ?_
            rintro e w1 ⟨rfl, hb1⟩
            have HB2 := Lib.hid (HB1.out.trans (hb1.mono HB1.out.size))
            have y0 := (hb1.cell (World.block_lt_of_cell? V _ y0)).trans y0
            have y1 := (hb1.cell (World.block_lt_of_cell? V _ y1)).trans y1
            have y2 := (hb1.cell (World.block_lt_of_cell? V _ y2)).trans y2
            have hD := HX.out.below HB2.out HZY.out
            have z0 := hD.c0
            have z1 := hD.c1
            have z2 := hD.c2
            have z3 := hD.c3
            have z4 := hD.c4
            clear hCl hb1 hD
            go_wp2_with fail
            refine (hCr w1 HB2.out).mono ?_
            rintro e w2 ⟨rfl, hb1⟩
            have HB3 := Lib.hid (HB2.out.trans (hb1.mono HB2.out.size))
            have y0 := (hb1.cell (World.block_lt_of_cell? w1 _ y0)).trans y0
            have y1 := (hb1.cell (World.block_lt_of_cell? w1 _ y1)).trans y1
            have y2 := (hb1.cell (World.block_lt_of_cell? w1 _ y2)).trans y2
            have hD := HX.out.below HB3.out HZY.out
            have z0 := hD.c0
            have z1 := hD.c1
            have z2 := hD.c2
            have z3 := hD.c3
            have z4 := hD.c4
            clear hCr hb1 hD
            go_wp2_with fail
            refine (hCi w2 HB3.out).mono ?_
            rintro e w3 ⟨rfl, hb1⟩
            have HB4 := Lib.hid (HB3.out.trans (hb1.mono HB3.out.size))
            have HB5 := Lib.hid (HB0.out.trans (HB4.out.mono HB0.out.size))
            have y2 := (hb1.cell (World.block_lt_of_cell? w2 _ y2)).trans y2
            have hD := HX.out.below HB4.out HZY.out
            have z0 := hD.c0
            clear hCi hb1 hD z1 z2 z3 z4 y0 y1
            go_upto_region 18 with fail
            cases bl with
            | false =>
              have HR := Lib.hid (HRF.out (by unfold rightAt; rw [← HBL.out]; simp))
              go_wp2_with fail
              go_ret
              exact ⟨by rw [HR.out] <;> rfl, HB5.out⟩
            | true =>
            cases br with
            | false =>
              have HR := Lib.hid (HRF.out (by unfold rightAt; rw [← HBR'.out]; simp))
              go_wp2_with fail
              go_ret
              exact ⟨by rw [HR.out] <;> rfl, HB5.out⟩
            | true =>
            by_cases h256 : xi < 256
            · have d3 : decide (xi < 256) = true := decide_eq_true h256
              have HR := Lib.hid (HRF.out (by
                intro h
                unfold rightAt at h
                simp only [Bool.and_eq_true, decide_eq_true_eq] at h
                omega))
              clear h256
              go_wp2_with fail
              go_ret
              exact ⟨by rw [HR.out] <;> rfl, HB5.out⟩
            · have d3 : decide (xi < 256) = false := decide_eq_false h256
              obtain ⟨q, hq⟩ : ∃ q : Nat, xi = ((q + 256 : Nat) : Int) := ⟨(xi - 256).toNat, by omega⟩
              have hsub : xi - 256 = (q : Nat) := by omega
              by_cases hqw : q < nw
              · have d4 : decide ((nw : Int) ≤ (q : Int)) = false := decide_eq_false (by omega)
                have d5 : decide (nw ≤ q) = false := decide_eq_false (by omega)
                cases bi with
                | true =>
                  have HR := Lib.hid (HRF.out (by unfold rightAt; rw [← HBI.out]; simp))
                  subst hq
                  clear h256
                  go_wp2_with fail
                  go_ret
                  exact ⟨by rw [HR.out] <;> rfl, HB5.out⟩
                | false =>
                  have hql : q < ws.length := by rw [← HNW.out]; exact hqw
                  obtain ⟨bw, ow, rfl, cq⟩ := (HWY.out.below HB4.out).cellAt hql
                  have iq : 0 ≤ (q : Int) ∧ (q : Int) < (nw : Int) := by omega
                  obtain ⟨wd, hwd⟩ : ∃ wd, wd = ws.getD q ⟨#[]⟩ := ⟨_, rfl⟩
                  rw [← hwd] at cq
                  have hsl : pl.size ≤ 1048576 := by rw [HPL.out rfl]; exact wordF_le ws HSZ.out _
                  have hsr : pr.size ≤ 1048576 := by rw [HPR.out rfl]; exact wordF_le ws HSZ.out _
                  have hat : rightAt ws ms j ⟨xl, xr, xi⟩ = decide (tl wd = tl (pl ++ pr)) := by
                    unfold rightAt
                    dsimp only
                    rw [← HBL.out, ← HBR'.out, ← HBI.out, decide_eq_true (by omega : 256 ≤ xi), hsub, decide_eq_true (by omega : ((q : Nat) : Int) < (ws.length : Int)), Int.toNat_natCast, ← hwd, HPL.out rfl, HPR.out rfl]
                    simp
                  have heq : (wd.toList == (pl ++ pr).toList) = decide (tl wd = tl (pl ++ pr)) := by
                    rw [toList_tl, toList_tl, Bool.eq_iff_iff]
                    simp
                  by_cases hE : tl wd = tl (pl ++ pr)
                  · rw [decide_eq_true hE] at hat heq
                    have d6 : (wd.toList != (pl ++ pr).toList) = false := by rw [bne, heq]; rfl
                    have HN := Lib.hid (show rightN ws ms (j + 1) from fun i x hi hx => by
                      by_cases e : i = j
                      · subst e
                        rw [HXS.out] at hx
                        cases hx
                        exact hat
                      · exact HV.out i x (by omega) hx)
                    subst hq
                    clear h256 hat hE hwd hql hqw
                    go_wp2_with fail
                    go_roundw
                    case rel => exact ⟨j + 1, by omega, by go_num, HB4.out, HN.out⟩
                    case measure => simp only [intOf]; omega
                  · rw [decide_eq_false hE] at hat heq
                    have d6 : (wd.toList != (pl ++ pr).toList) = true := by rw [bne, heq]; rfl
                    have HR := Lib.hid (HRF.out (by rw [hat]; simp))
                    subst hq
                    clear h256 hat hE hwd hql hqw
                    go_wp2_with fail
                    go_ret
                    exact ⟨by rw [HR.out] <;> rfl, HB5.out⟩
              · have d4 : decide ((nw : Int) ≤ (q : Int)) = true := decide_eq_true (by omega)
                have d5 : decide (nw ≤ q) = true := decide_eq_true (by omega)
                have HR := Lib.hid (HRF.out (by
                  intro h
                  unfold rightAt at h
                  simp only [Bool.and_eq_true, decide_eq_true_eq] at h
                  have := HNW.out
                  omega))
                subst hq
                clear h256 hqw
                go_wp2_with fail
                go_ret
                exact ⟨by rw [HR.out] <;> rfl, HB5.out⟩
          · have g0 : decide ((j : Int) < (nm : Int)) = false := decide_eq_false (by omega)
            have g1 : decide (j < nm) = false := decide_eq_false hjk
            have hr : R = true := HQ.out.2 ⟨by rw [← HNW.out, ← HNM.out]; exact HNE.out, HU2.out, by
              rw [← HNM.out, show nm = j by omega]
              exact HV.out⟩
            have HR := Lib.hid hr
            have HBR := Lib.hid hb
            clear hr hb hv hjk
            go_wp2_with fail
            go_ret
            exact ⟨by rw [HR.out] <;> rfl, HB0.out.trans (HBR.out.mono HB0.out.size)⟩
  · have d0 : ((nw : Int) != (nm : Int)) = true := by simp; omega
    have hr : R = false := by
      cases hb : R with
      | false => rfl
      | true => exact absurd (HQ.out.1 hb).1 (by rw [← HNW.out, ← HNM.out]; exact hne)
    have HR := Lib.hid hr
    clear hne hr
    go_enter Tryz.func22, Tryz.ntmps22
    go_upto_region 1 with fail
    rw [← HY.out, ← HZ.out]
    clear HY
    go_wp2_with fail
    go_ret
    exact ⟨by rw [HR.out]; rfl, HB0.out⟩
end Go.Proofs.YtonbfcpbgkpbaaaGreatDoor
end
section
/- tesseraref3.Rune: its contract, said by scalZ. -/
namespace Go.Proofs.YtonbfcpbgkpbaaaGreatDoor
open Go.RowKit Go.Sort Go.Joins
set_option linter.unusedVariables false
set_option linter.unusedSimpArgs false
set_option maxRecDepth 100000
theorem rrune_any (n : Int) (w : World) : Calls Tryz.prog 23 #[.int .i32 n] w fun e w' => e = .returned (.bool (scalZ n)) ∧ w' = w := by
  have hz : scalZ n = (decide (0 ≤ n) && decide (n ≤ 1114111) && (decide (n < 55296) || decide (57343 < n))) := by
    unfold scalZ
    rw [Bool.eq_iff_iff]
    simp only [Bool.and_eq_true, Bool.or_eq_true, decide_eq_true_eq]
    omega
  obtain ⟨R, hR⟩ : ∃ R, R = scalZ n := ⟨_, rfl⟩
  rw [← hR] at hz ⊢
  clear hR
  cases d0 : decide (0 ≤ n) with
  | false =>
    have HR := Lib.hid (show R = false by rw [hz, d0]; rfl)
    clear hz
    go_enter Tryz.func23, Tryz.ntmps23
    go_wp2_with fail
    go_ret
    exact ⟨by rw [HR.out] <;> rfl, rfl⟩
  | true =>
  cases d1 : decide (n ≤ 1114111) with
  | false =>
    have HR := Lib.hid (show R = false by rw [hz, d0, d1]; rfl)
    clear hz
    go_enter Tryz.func23, Tryz.ntmps23
    go_wp2_with fail
    go_ret
    exact ⟨by rw [HR.out] <;> rfl, rfl⟩
  | true =>
  cases d2 : decide (n < 55296) with
  | true =>
    have HR := Lib.hid (show R = true by rw [hz, d0, d1, d2]; rfl)
    clear hz
    go_enter Tryz.func23, Tryz.ntmps23
    go_wp2_with fail
    go_ret
    exact ⟨by rw [HR.out] <;> rfl, rfl⟩
  | false =>
  cases d3 : decide (57343 < n) with
  | true =>
    have HR := Lib.hid (show R = true by rw [hz, d0, d1, d2, d3]; rfl)
    clear hz
    go_enter Tryz.func23, Tryz.ntmps23
    go_wp2_with fail
    go_ret
    exact ⟨by rw [HR.out] <;> rfl, rfl⟩
  | false =>
    have HR := Lib.hid (show R = false by rw [hz, d0, d1, d2, d3]; rfl)
    clear hz
    go_enter Tryz.func23, Tryz.ntmps23
    go_wp2_with fail
    go_ret
    exact ⟨by rw [HR.out] <;> rfl, rfl⟩
end Go.Proofs.YtonbfcpbgkpbaaaGreatDoor
end
section
/- tesseraref7.written: its contract. -/
namespace Go.Proofs.YtonbfcpbgkpbaaaGreatDoor
open Go.RowKit Go.Sort Go.Joins
set_option linter.unusedVariables false
set_option linter.unusedSimpArgs false
set_option maxRecDepth 100000
theorem hex_fin : ∀ q : Fin 16, (⟨#[48, 49, 50, 51, 52, 53, 54, 55, 56, 57, 65, 66, 67, 68, 69, 70]⟩ : ByteArray)[q.1]'(q.2) = capC q.1 := by decide
theorem hex_at (q : Nat) (hq : q < 16) (h : q < (⟨#[48, 49, 50, 51, 52, 53, 54, 55, 56, 57, 65, 66, 67, 68, 69, 70]⟩ : ByteArray).size) : (⟨#[48, 49, 50, 51, 52, 53, 54, 55, 56, 57, 65, 66, 67, 68, 69, 70]⟩ : ByteArray)[q]'h = capC q := hex_fin ⟨q, hq⟩
set_option maxHeartbeats 2000000 in
theorem written_any (n : Nat) (hn : n ≤ 1114111) (w : World) : Calls Tryz.prog 41 #[.int .i32 (n : Nat)] w fun e w' => e = .returned (.string (textOf (runeTok n))) ∧ Below w.heap.size w w' := by
  go_enter Tryz.func41, Tryz.ntmps41
  go_wp2_with fail
  go_loopw [3, 4] (fun s i wr => ∃ (f m : Nat) (acc : List UInt8), s = .string (textOf acc) ∧ i = .int .i64 (m : Nat) ∧ m ≤ n ∧ acc.length ≤ 8 ∧ acc.length + f = 8 ∧ m < 16 ^ f ∧ rdig f m acc = rdig 8 n [] ∧ Below w.heap.size w wr) (fun s i _ => 16 - (match s with | .string x => x.size | _ => 0))
  case atStart => exact ⟨8, n, [], rfl, rfl, Nat.le_refl _, by simp, rfl, by omega, rfl, Below.refl _ _⟩
  case round =>
    obtain ⟨f, m, acc, rfl, rfl, hm, hl, hfl, hp, hd, hb⟩ := hrel
    have HB0 := Lib.hid hb
    clear hb
    have hsz : (textOf acc).size = acc.length := by simp [textOf, ByteArray.size]
    by_cases hc : 0 < m ∨ acc.length < 4
    · obtain ⟨f, rfl⟩ : ∃ g, f = g + 1 := by
        cases f with
        | zero => exfalso; simp at hp; omega
        | succ f => exact ⟨f, rfl⟩
      have HD := Lib.hid ((rdig_step f m acc hc).symm.trans hd)
      have HPW := Lib.hid (show m / 16 < 16 ^ f by rw [Nat.pow_succ] at hp; omega)
      obtain ⟨q, hqq⟩ : ∃ q, q = m % 16 := ⟨_, rfl⟩
      have HTX := Lib.hid (show (⟨#[capC (m % 16)]⟩ : ByteArray) ++ textOf acc = textOf (capC (m % 16) :: acc) from text_add [capC (m % 16)] acc)
      rw [← hqq] at HTX HD
      have hq : q < 16 := by omega
      have hqi : (m : Int) % 16 = (q : Nat) := by omega
      have hcap := hex_at q hq
      have hc8 : (capC q).toNat < 256 := (capC q).toNat_lt
      have hcv := byte_text wr (capC q).toNat hc8
      rw [show UInt8.ofNat (capC q).toNat = capC q from UInt8.ofNat_toNat] at hcv
      have hbY := box_below wr (.cells #[.int .u8 ((capC q).toNat : Nat)] 5)
      have HBY := Lib.hid (HB0.out.trans (hbY.mono HB0.out.size))
      have HSZ := Lib.hid hsz
      have hz4 : ((acc.length : Nat) : Int) = ((textOf acc).size : Nat) := by rw [hsz]
      obtain ⟨x, hx⟩ : ∃ x, x = textOf acc := ⟨_, rfl⟩
      have hx8 : x.size ≤ 8 := by rw [hx, hsz]; exact hl
      rw [← hx] at hz4 HTX HSZ ⊢
      clear hd hp hsz hx hqq hbY
      have d4 : decide ((x.size : Int) < 4) = decide (acc.length < 4) := by rw [← hz4, Bool.eq_iff_iff]; simp; omega
      by_cases h0 : 0 < m
      · have d0 : decide ((0 : Int) < (m : Int)) = true := decide_eq_true (by omega)
        clear d4
        go_wp2_with fail
        exact ⟨⟨f, m / 16, capC q :: acc, by rw [HTX.out], by go_num, by omega, by simp only [List.length_cons]; omega, by simp only [List.length_cons]; omega, HPW.out, HD.out, HBY.out⟩, by
          show 16 - ByteArray.size _ < 16 - ByteArray.size _
          rw [ByteArray.size_append, HSZ.out]
          show 16 - (1 + _) < _
          omega⟩
      · have d0 : decide ((0 : Int) < (m : Int)) = false := decide_eq_false (by omega)
        have d5 : decide ((x.size : Int) < 4) = true := by rw [d4]; exact decide_eq_true (by omega)
        clear d4
        go_wp2_with fail
        exact ⟨⟨f, m / 16, capC q :: acc, by rw [HTX.out], by go_num, by omega, by simp only [List.length_cons]; omega, by simp only [List.length_cons]; omega, HPW.out, HD.out, HBY.out⟩, by
          show 16 - ByteArray.size _ < 16 - ByteArray.size _
          rw [ByteArray.size_append, HSZ.out]
          show 16 - (1 + _) < _
          omega⟩
    · have HD := Lib.hid ((rdig_end f m acc hc).symm.trans hd)
      have d0 : decide ((0 : Int) < (m : Int)) = false := decide_eq_false (by omega)
      have HTX := Lib.hid (show (⟨#[85, 43]⟩ : ByteArray) ++ textOf acc = textOf (85 :: 43 :: acc) from text_add [85, 43] acc)
      have d5 : decide (((textOf acc).size : Int) < 4) = false := decide_eq_false (by rw [hsz]; omega)
      obtain ⟨x, hx⟩ : ∃ x, x = textOf acc := ⟨_, rfl⟩
      have hx8 : x.size ≤ 8 := by rw [hx, hsz]; exact hl
      rw [← hx] at d5 HTX ⊢
      clear hd hp hsz hx
      go_wp2_with fail
      go_ret
      exact ⟨by unfold runeTok; rw [← HD.out, ← HTX.out] <;> rfl, HB0.out⟩
end Go.Proofs.YtonbfcpbgkpbaaaGreatDoor
end
section
/- tesseraref7.line: its contract. -/
namespace Go.Proofs.YtonbfcpbgkpbaaaGreatDoor
open Go.RowKit Go.Sort Go.Joins
set_option linter.unusedVariables false
set_option linter.unusedSimpArgs false
set_option maxRecDepth 100000
/-- A span of a line of letters. -/
def spanR (x : Sp) : List UInt8 := if x.hi = x.lo then 32 :: runeTok x.lo.toNat else 32 :: (runeTok x.lo.toNat ++ ([32, 46, 46, 32] ++ runeTok x.hi.toNat))
theorem spanR_eq (x : Sp) : (spT x).flatMap (fun t => 32 :: t) = spanR x := by
  unfold spT spanR
  split <;> simp
theorem jn_flat (t : List UInt8) (ts : List (List UInt8)) : ∀ k, k ≤ ts.length → jn (t :: ts) (k + 1) = t ++ (ts.take k).flatMap (fun t => 32 :: t)
  | 0, _ => by rw [jn_succ]; simp [jn]
  | k + 1, h => by
    rw [jn_succ, jn_flat t ts k (by omega), List.take_add_one, List.getElem?_eq_getElem (by omega : k < ts.length), Option.toList_some, List.flatMap_append]
    simp [List.getD, List.getElem?_eq_getElem (by omega : k < ts.length)]
/-- What the reference writes for a class. -/
def lineR (nm : List UInt8) (l : List Sp) : List UInt8 := nm ++ [32, 123] ++ l.flatMap spanR ++ [32, 125, 10]
theorem flat_flat (l : List Sp) : (l.flatMap spT).flatMap (fun t => 32 :: t) = l.flatMap spanR := by
  rw [List.flatMap_assoc]
  congr 1
  funext x
  exact spanR_eq x
theorem lineR_eq (nm : List UInt8) (l : List Sp) : lineR nm l = lnT [10] (clsT nm l) := by
  have e : clsT nm l = nm :: ([123] :: (l.flatMap spT ++ [[125]])) := by unfold clsT; simp
  unfold lnT
  rw [e, List.length_cons, jn_flat _ _ _ (Nat.le_refl _), List.take_length]
  unfold lineR
  rw [List.flatMap_cons, List.flatMap_append, flat_flat]
  simp
theorem spanR_len {x : Sp} (h : spOk x = true) : (spanR x).length ≤ 21 := by
  unfold spOk at h
  rw [Bool.and_eq_true] at h
  obtain ⟨lo, e0, hlo, f0⟩ := scalZ_nat h.1
  obtain ⟨hi, e1, hhi, f1⟩ := scalZ_nat h.2
  unfold spanR
  rw [f0, f1]
  have a := rtok_len hlo
  have b := rtok_len hhi
  split
  · simp only [List.length_cons]; omega
  · simp only [List.length_cons, List.length_append, List.length_nil]; omega
theorem flatR_len {l : List Sp} (h : l.all spOk = true) : (l.flatMap spanR).length ≤ 21 * l.length := by
  induction l with
  | nil => simp
  | cons x l ih =>
    rw [List.all_cons, Bool.and_eq_true] at h
    have := spanR_len h.1
    have := ih h.2
    rw [List.flatMap_cons, List.length_append, List.length_cons]
    omega
theorem allR_take {l : List Sp} (h : l.all spOk = true) (k : Nat) : (l.take k).all spOk = true := by
  rw [List.all_eq_true] at h ⊢
  exact fun x hx => h x (List.mem_of_mem_take hx)
set_option maxHeartbeats 4000000 in
theorem line_any (nm : List UInt8) (hnm : nm.length ≤ 100) (a : Option Addr) (c : Nat) (l : List Sp) (w : World) (h : SPS w a l) (hn : l.length ≤ 2097152) (hok : l.all spOk = true) :
    Calls Tryz.prog 27 #[.string (textOf nm), .slice a l.length c] w fun e w' => e = .returned (.string (textOf (lnT [10] (clsT nm l)))) ∧ Below w.heap.size w w' := by
  rw [← lineR_eq]
  have HS := Lib.hid h
  obtain ⟨n, hl⟩ : ∃ n, n = l.length := ⟨_, rfl⟩
  have HL := Lib.hid hl
  have HOK := Lib.hid hok
  rw [← hl] at hn ⊢
  have hx0 : textOf nm ++ (⟨#[32, 123]⟩ : ByteArray) = textOf (nm ++ [32, 123]) := text_add nm [32, 123]
  have HX0 := Lib.hid hx0
  obtain ⟨x0, he0⟩ : ∃ x, x = textOf nm := ⟨_, rfl⟩
  have hz0 : x0.size ≤ 100 := by rw [he0]; simpa [textOf, ByteArray.size] using hnm
  rw [← he0] at HX0 ⊢
  clear h hl hok hx0 he0
  go_enter Tryz.func27, Tryz.ntmps27
  go_wp2_with fail
  go_loopw [5, 6] (fun v i wr => ∃ k : Nat, k ≤ n ∧ i = .int .i64 (k : Nat) ∧ v = .string (textOf (nm ++ [32, 123] ++ (l.take k).flatMap spanR)) ∧ Below w.heap.size w wr) (fun _ i _ => n - (intOf i).toNat)
  case atStart => exact ⟨0, Nat.zero_le _, rfl, by rw [HX0.out]; simp, Below.refl _ _⟩
  case round =>
    obtain ⟨k, hk, rfl, rfl, hb⟩ := hrel
    obtain ⟨x, hx⟩ : ∃ x, x = textOf (nm ++ [32, 123] ++ (l.take k).flatMap spanR) := ⟨_, rfl⟩
    have hxs : x.size ≤ 102 + 21 * k := by
      have := flatR_len (allR_take HOK.out k)
      rw [List.length_take] at this
      rw [hx]
      show (nm ++ [32, 123] ++ (l.take k).flatMap spanR).toArray.size ≤ _
      simp only [List.size_toArray, List.length_append, List.length_cons, List.length_nil]
      omega
    rw [← hx]
    have HX := Lib.hid hx
    clear hx
    by_cases hlt : k < n
    · have hkl : k < l.length := by have := HL.out; omega
      have hox : spOk l[k] = true := List.all_eq_true.1 HOK.out _ (List.getElem_mem hkl)
      have htk : (l.take (k + 1)).flatMap spanR = (l.take k).flatMap spanR ++ spanR l[k] := by rw [List.take_add_one, List.getElem?_eq_getElem hkl, Option.toList_some, List.flatMap_append]; simp
      obtain ⟨b, off, rfl, c0, c1⟩ := (HS.out.below hb).cellsAt hkl
      obtain ⟨y, hy⟩ : ∃ y, y = l[k] := ⟨_, rfl⟩
      rw [← hy] at c0 c1 hox htk
      unfold spOk at hox
      rw [Bool.and_eq_true] at hox
      obtain ⟨lo, e0, hlo, f0⟩ := scalZ_nat hox.1
      obtain ⟨hi, e1, hhi, f1⟩ := scalZ_nat hox.2
      rw [e0] at c0
      rw [e1] at c1
      have hsp : spanR y = if hi = lo then 32 :: runeTok lo else 32 :: (runeTok lo ++ ([32, 46, 46, 32] ++ runeTok hi)) := by
        unfold spanR
        rw [f0, f1, e0, e1]
        by_cases h : hi = lo
        · rw [if_pos h, if_pos (by omega)]
        · rw [if_neg h, if_neg (by omega)]
      have HT := Lib.hid htk
      have HSP := Lib.hid hsp
      have hg : decide ((k : Int) < (n : Int)) = true := decide_eq_true (by omega)
      have hg1 : decide (k < n) = true := decide_eq_true hlt
      have ik : 0 ≤ (k : Int) ∧ (k : Int) < (n : Int) := by omega
      have HB0 := Lib.hid hb
      have hT1 := written_any lo hlo wr
      obtain ⟨tx, htx⟩ : ∃ tx, tx = textOf (runeTok lo) := ⟨_, rfl⟩
      have hts : tx.size ≤ 8 := by rw [htx]; simpa [textOf, ByteArray.size] using rtok_len hlo
      rw [← htx] at hT1
      have HTX := Lib.hid htx
      clear hy hox f0 f1 e0 e1 htk hsp htx hb
      go_wp2_with fail
      refine hT1.mono ?_
      rintro e w1 ⟨rfl, hb1⟩
      have HB1 := Lib.hid (HB0.out.trans (hb1.mono HB0.out.size))
      have c0 := (hb1.cell (World.block_lt_of_cell? wr _ c0)).trans c0
      have c1 := (hb1.cell (World.block_lt_of_cell? wr _ c1)).trans c1
      clear hT1 hb1
      have HA := Lib.hid (show x ++ (⟨#[32]⟩ : ByteArray) ++ tx = textOf (nm ++ [32, 123] ++ (l.take k).flatMap spanR ++ 32 :: runeTok lo) by
        rw [HX.out, HTX.out, show (⟨#[32]⟩ : ByteArray) = textOf [32] from rfl, text_add, text_add, List.append_assoc]
        rfl)
      have hsa : (x ++ (⟨#[32]⟩ : ByteArray) ++ tx).size ≤ 111 + 21 * k := by
        rw [ByteArray.size_append, ByteArray.size_append]
        show x.size + 1 + tx.size ≤ _
        omega
      by_cases heq : hi = lo
      · have d0 : (((hi : Nat) : Int) != ((lo : Nat) : Int)) = false := by simp; omega
        have d1 : (((hi : Nat) : Int) == ((lo : Nat) : Int)) = true := by simp; omega
        have HN := Lib.hid (show x ++ (⟨#[32]⟩ : ByteArray) ++ tx = textOf (nm ++ [32, 123] ++ (l.take (k + 1)).flatMap spanR) by
          rw [HA.out, HT.out, HSP.out, if_pos heq, List.append_assoc (nm ++ [32, 123])])
        go_upto_region 6 with fail
        go_quiet (fail)
        go_wp2_with fail
        go_roundw
        case rel => exact ⟨k + 1, by omega, by go_num, by rw [HN.out], below_drewN HB1.out nq⟩
        case measure => simp only [intOf]; omega
      · have d0 : (((hi : Nat) : Int) != ((lo : Nat) : Int)) = true := by simp; omega
        have d1 : (((hi : Nat) : Int) == ((lo : Nat) : Int)) = false := by simp; omega
        have hT2 := fun wx => written_any hi hhi wx
        obtain ⟨ty, hty⟩ : ∃ ty, ty = textOf (runeTok hi) := ⟨_, rfl⟩
        have hys : ty.size ≤ 8 := by rw [hty]; simpa [textOf, ByteArray.size] using rtok_len hhi
        simp only [← hty] at hT2
        go_upto_region 6 with fail
        obtain ⟨xa, hxa⟩ : ∃ xa, xa = x ++ (⟨#[32]⟩ : ByteArray) ++ tx := ⟨_, rfl⟩
        rw [← hxa] at HA hsa ⊢
        have HN := Lib.hid (show xa ++ (⟨#[32, 46, 46, 32]⟩ : ByteArray) ++ ty = textOf (nm ++ [32, 123] ++ (l.take (k + 1)).flatMap spanR) by
          rw [HA.out, hty, show (⟨#[32, 46, 46, 32]⟩ : ByteArray) = textOf [32, 46, 46, 32] from rfl, text_add, text_add, HT.out, HSP.out, if_neg heq, List.append_assoc (nm ++ [32, 123])]
          congr 1
          simp)
        clear hxa hty
        go_quiet (fail)
        go_wp2_with fail
        have HBQ := Lib.hid (below_drewN HB1.out nq)
        refine (hT2 (w1.drewN nq)).mono ?_
        rintro e w2 ⟨rfl, hb2⟩
        have HB2 := Lib.hid (HBQ.out.trans (hb2.mono HBQ.out.size))
        clear hT2 hb2
        go_wp2_with fail
        go_roundw
        case rel => exact ⟨k + 1, by omega, by go_num, by rw [HN.out], HB2.out⟩
        case measure => simp only [intOf]; omega
    · have hg : decide ((k : Int) < (n : Int)) = false := decide_eq_false (by omega)
      have hg1 : decide (k < n) = false := decide_eq_false hlt
      have hkn : l.take k = l := List.take_of_length_le (by have := HL.out; omega)
      have HE := Lib.hid (show x ++ (⟨#[32, 125, 10]⟩ : ByteArray) = textOf (lineR nm l) by rw [HX.out, hkn]; exact text_add _ [32, 125, 10])
      have HB0 := Lib.hid hb
      clear hb hkn hlt
      go_wp2_with fail
      go_ret
      exact ⟨by rw [← HE.out] <;> rfl, HB0.out⟩
end Go.Proofs.YtonbfcpbgkpbaaaGreatDoor
end
section
/- tesseraref7.number, written, line: their contracts. -/
namespace Go.Proofs.YtonbfcpbgkpbaaaGreatDoor
open Go.RowKit Go.Sort Go.Joins
set_option linter.unusedVariables false
set_option linter.unusedSimpArgs false
set_option maxRecDepth 100000
/-- Decimal digits put ahead. -/
def ddig : Nat → Nat → List UInt8 → List UInt8
  | 0, _, acc => acc
  | f + 1, n, acc => if 0 < n ∨ acc = [] then ddig f (n / 10) (UInt8.ofNat (48 + n % 10) :: acc) else acc
theorem ddig_end (f n : Nat) (acc : List UInt8) (h : ¬ (0 < n ∨ acc = [])) : ddig f n acc = acc := by
  cases f with
  | zero => rfl
  | succ f => rw [ddig, if_neg h]
theorem ddig_step (f n : Nat) (acc : List UInt8) (h : 0 < n ∨ acc = []) : ddig (f + 1) n acc = ddig f (n / 10) (UInt8.ofNat (48 + n % 10) :: acc) := by rw [ddig, if_pos h]
theorem ddig_dec {v : Nat} (h1 : 100 ≤ v) (h2 : v < 1000) : ddig 4 v [] = dec3 v := by
  rw [ddig_step 3 v [] (.inr rfl), ddig_step 2 _ _ (.inl (by omega)), ddig_step 1 _ _ (.inl (by omega)), ddig_end 1 _ _ (by simp; omega)]
  unfold dec3
  rw [show v / 10 / 10 % 10 = v / 100 by omega]
theorem byte_at (u : World) (q : Nat) (h : q < 256) : (convert 50 9 (.slice (some ⟨u.heap.size, 0, none⟩) 1 1)).run Tryz.prog (u.alloc (.cells #[.int .u8 (q : Nat)] 5)) = .ok (.string (textOf [UInt8.ofNat q])) (u.alloc (.cells #[.int .u8 (q : Nat)] 5)) := byte_text u q h
set_option maxHeartbeats 2000000 in
theorem number_any (v : Nat) (h1 : 256 ≤ v) (h2 : v < 1000) (w : World) : Calls Tryz.prog 26 #[.int .i64 (v : Nat)] w fun e w' => e = .returned (.string (textOf (dec3 v))) ∧ Below w.heap.size w w' := by
  obtain ⟨D, hD⟩ : ∃ D, D = dec3 v := ⟨_, rfl⟩
  have HD0 := Lib.hid (show ddig 4 v [] = D by rw [hD]; exact ddig_dec (by omega) h2)
  rw [← hD]
  clear hD
  go_enter Tryz.func26, Tryz.ntmps26
  go_wp2_with fail
  go_loopw [0, 3] (fun i s wr => ∃ (f m : Nat) (acc : List UInt8), i = .int .i64 (m : Nat) ∧ s = .string (textOf acc) ∧ m < 1000 ∧ (acc = [] → 0 < m) ∧ m < 10 ^ f ∧ acc.length + f = 4 ∧ ddig f m acc = D ∧ Below w.heap.size w wr) (fun i _ _ => (intOf i).toNat)
  case atStart => exact ⟨4, v, [], rfl, rfl, h2, fun _ => by omega, by omega, rfl, HD0.out, Below.refl _ _⟩
  case round =>
    obtain ⟨f, m, acc, rfl, rfl, hm, hne, hp, hfl, hd, hb⟩ := hrel
    have HB0 := Lib.hid hb
    clear hb
    by_cases h0 : 0 < m
    · obtain ⟨f, rfl⟩ : ∃ g, f = g + 1 := by
        cases f with
        | zero => exfalso; simp at hp; omega
        | succ f => exact ⟨f, rfl⟩
      have HD := Lib.hid ((ddig_step f m acc (.inl h0)).symm.trans hd)
      have HPW := Lib.hid (show m / 10 < 10 ^ f by rw [Nat.pow_succ] at hp; omega)
      obtain ⟨q, hqq⟩ : ∃ q, q = 48 + m % 10 := ⟨_, rfl⟩
      have HTX := Lib.hid (show (⟨#[UInt8.ofNat (48 + m % 10)]⟩ : ByteArray) ++ textOf acc = textOf (UInt8.ofNat (48 + m % 10) :: acc) from text_add [UInt8.ofNat (48 + m % 10)] acc)
      rw [← hqq] at HTX HD
      have hq : q < 256 := by omega
      have hqi : (48 : Int) + (m : Int) % 10 = (q : Nat) := by omega
      have hqt : (48 : Int) + (m : Int).tmod 10 = (q : Nat) := by rw [Int.tmod_eq_emod_of_nonneg (by omega)]; omega
      have hmod : ((q : Nat) : Int) % 256 = (q : Nat) := by omega
      have hdq : (m : Int).tdiv 10 = ((m / 10 : Nat) : Int) := by rw [Int.tdiv_eq_ediv_of_nonneg (by omega)]; omega
      have hcv := byte_text wr q hq
      have hbY := box_below wr (.cells #[.int .u8 (q : Nat)] 5)
      have HBY := Lib.hid (HB0.out.trans (hbY.mono HB0.out.size))
      obtain ⟨x, hx⟩ : ∃ x, x = textOf acc := ⟨_, rfl⟩
      have hx4 : x.size ≤ 4 := by rw [hx]; simp [textOf, ByteArray.size]; omega
      rw [← hx] at HTX ⊢
      have d0 : decide ((0 : Int) < (m : Int)) = true := decide_eq_true (by omega)
      have hm10 : m / 10 < m := by omega
      clear hd hp hx hqq hbY h0 hne
      go_wp2_with fail
      exact ⟨⟨f, m / 10, UInt8.ofNat q :: acc, by go_num, by rw [HTX.out], by omega, (fun h => by cases h), HPW.out, by simp only [List.length_cons]; omega, HD.out, HBY.out⟩, by
        simp only [intOf]
        omega⟩
    · have hm0 : m = 0 := by omega
      subst hm0
      have HD := Lib.hid ((ddig_end f 0 acc (by intro h; rcases h with h | h; omega; exact absurd (hne h) (by omega))).symm.trans hd)
      have hs : (textOf acc).toList.isEmpty = false := by
        have : acc ≠ [] := fun e => absurd (hne e) (by omega)
        rw [ByteArray.toList_eq]
        cases acc with
        | nil => exact absurd rfl this
        | cons c l => rfl
      obtain ⟨x, hx⟩ : ∃ x, x = textOf acc := ⟨_, rfl⟩
      have HX := Lib.hid hx
      rw [← hx] at hs ⊢
      clear hx hd hne
      go_wp2_with fail
      go_ret
      exact ⟨by rw [← HD.out, ← HX.out] <;> rfl, HB0.out⟩
end Go.Proofs.YtonbfcpbgkpbaaaGreatDoor
end
