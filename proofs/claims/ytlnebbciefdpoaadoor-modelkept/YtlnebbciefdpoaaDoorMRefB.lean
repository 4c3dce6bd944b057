/- tesseraref5.words: its contract. -/
import Derived.Test.YtlnebbciefdpoaaDoorMRefA
import Derived.Test.YtlnebbciefdpoaaDoorCNew
namespace Go.Proofs.YtlnebbciefdpoaaDoor
open Go.RowKit Go.Sort Go.Joins
/-- A refusal of the list li. -/
def fbV (li : Nat) (p : Nat × Nat) : Value := .agg #[.int .i64 (p.1 : Nat), .int .i64 ((if p.1 = 0 then 0 else li : Nat) : Int), .int .i64 (p.2 : Nat)]
theorem strEq_dec (a b : ByteArray) : (a.toList == b.toList) = decide (a = b) := by
  rw [ByteArray.toList_eq, ByteArray.toList_eq, Bool.eq_iff_iff, decide_eq_true_iff]
  constructor
  · intro h
    have h : a.data.toList = b.data.toList := by simpa using h
    cases a; cases b
    simp at h
    rw [h]
  · rintro rfl
    simp
theorem badW_size {ws : List ByteArray} {k : Nat} {x : ByteArray} (hx : ws[k]? = some x) (h : x.size < 2 ∨ 256 < x.size) : badW ws k = 21 := by
  unfold badW; rw [hx]; simp only; rw [if_pos h]
theorem badW_twice {ws : List ByteArray} {k : Nat} {x : ByteArray} (hx : ws[k]? = some x) (h : ¬ (x.size < 2 ∨ 256 < x.size)) (ht : (ws.take k).any (fun v => decide (v = x)) = true) : badW ws k = 22 := by
  unfold badW; rw [hx]; simp only; rw [if_neg h, if_pos ht]
theorem badW_ok {ws : List ByteArray} {k : Nat} {x : ByteArray} (hx : ws[k]? = some x) (h : ¬ (x.size < 2 ∨ 256 < x.size)) (ht : (ws.take k).any (fun v => decide (v = x)) = false) : badW ws k = 0 := by
  unfold badW; rw [hx]; simp only; rw [if_neg h, if_neg (by rw [ht]; simp)]
theorem any_take_snoc {α : Type} {l : List α} {k : Nat} {x : α} (h : l[k]? = some x) (p : α → Bool) : (l.take (k + 1)).any p = ((l.take k).any p || p x) := by
  rw [List.take_add_one, h]; simp
theorem any_take_hit {α : Type} {l : List α} {k n : Nat} {x : α} (h : l[k]? = some x) (hk : k < n) (p : α → Bool) (hp : p x = true) : (l.take n).any p = true := by
  rw [List.any_eq_true]
  exact ⟨x, List.mem_iff_getElem?.2 ⟨k, by rw [List.getElem?_take_of_lt hk]; exact h⟩, hp⟩
set_option maxRecDepth 100000 in
set_option maxHeartbeats 4000000 in
theorem refWords_any (aw am a b c : Option Addr) (cw nm cm na ca nb cb nc cc : Nat) (ws : List ByteArray) (w : World) (hn : ws.length ≤ 4611686018427387904) (hW : WSP w aw ws) :
    Calls Tryd.prog 59 #[.agg #[.slice aw ws.length cw, .slice am nm cm, .slice a na ca, .slice b nb cb, .slice c nc cc]] w fun e w' => e = .returned (fbV 4 (firstBad (badW ws) ws.length)) ∧ Below w.heap.size w w' := by
  have hD := DBox.new w (.slice aw ws.length cw) (.slice am nm cm) (.slice a na ca) (.slice b nb cb) (.slice c nc cc)
  have hb := box_below w (.cells #[.slice aw ws.length cw, .slice am nm cm, .slice a na ca, .slice b nb cb, .slice c nc cc] 42)
  have hY1 := heap_alloc_new (w.alloc (.cells #[.slice aw ws.length cw, .slice am nm cm, .slice a na ca, .slice b nb cb, .slice c nc cc] 42)) (.cells #[.int .i64 0, .int .i64 0, .int .i64 0] 92)
  have hb2 := hb.alloc hb.size (.cells #[.int .i64 0, .int .i64 0, .int .i64 0] 92)
  have hD2 := hD.below (box_below (w.alloc (.cells #[.slice aw ws.length cw, .slice am nm cm, .slice a na ca, .slice b nb cb, .slice c nc cc] 42)) (.cells #[.int .i64 0, .int .i64 0, .int .i64 0] 92)) hD.lt
  have hW' := hW.below hb2
  have hsz : ((w.alloc (.cells #[.slice aw ws.length cw, .slice am nm cm, .slice a na ca, .slice b nb cb, .slice c nc cc] 42)).alloc (.cells #[.int .i64 0, .int .i64 0, .int .i64 0] 92)).heap.size = w.heap.size + 1 + 1 := by simp
  rw [show (w.alloc (.cells #[.slice aw ws.length cw, .slice am nm cm, .slice a na ca, .slice b nb cb, .slice c nc cc] 42)).heap.size = w.heap.size + 1 by simp] at hY1
  obtain ⟨E, hE⟩ : ∃ E, E = firstBad (badW ws) ws.length := ⟨_, rfl⟩
  have HE : Hid (E = firstBad (badW ws) ws.length) := hE
  rw [← hE]
  clear hD hb hW hE
  go_enter Tryd.func59, Tryd.ntmps59
  go_wp2_with fail
  obtain ⟨Y, hY⟩ : ∃ Y, Y = (w.alloc (.cells #[.slice aw ws.length cw, .slice am nm cm, .slice a na ca, .slice b nb cb, .slice c nc cc] 42)).alloc (.cells #[.int .i64 0, .int .i64 0, .int .i64 0] 92) := ⟨_, rfl⟩
  rw [← hY] at hb2 hD2 hW' hY1 hsz ⊢
  clear hY
  obtain ⟨z, hz⟩ : ∃ z, z = w.heap.size := ⟨_, rfl⟩
  have HZ : Hid (z = w.heap.size) := hz
  rw [← hz] at hD2 hY1 hsz ⊢
  clear hz
  go_loopw [3] (fun i wr => ∃ k : Nat, k ≤ ws.length ∧ i = .int .i64 k ∧ (∀ j, j < k → badW ws j = 0) ∧ Below Y.heap.size Y wr) (fun i _ => ws.length - (intOf i).toNat)
  case atStart => exact ⟨0, Nat.zero_le _, rfl, fun j hj => absurd hj (Nat.not_lt_zero _), Below.refl _ _⟩
  case round =>
    obtain ⟨k, hk, rfl, hok, hbr⟩ := hrel
    have x0 := (hD2.below hbr (by omega)).c0
    have HOK : Hid (∀ j, j < k → badW ws j = 0) := hok
    clear hok
    by_cases hlt : k < ws.length
    · obtain ⟨x, hx⟩ : ∃ x, ws[k]? = some x := ⟨_, List.getElem?_eq_getElem hlt⟩
      have g0 : decide ((k : Int) < (ws.length : Int)) = true := decide_eq_true (by omega)
      have HX : Hid (ws[k]? = some x) := hx
      have hWr := hW'.below hbr
      obtain ⟨bw, off, rfl, hc⟩ := hWr.at_ hx
      clear hx
      by_cases hs : x.size < 2 ∨ 256 < x.size
      · have hbad : firstBad (badW ws) ws.length = (21, k) := by
          have := badW_size HX.out hs
          rw [firstBad_some hlt HOK.out (by rw [this]; decide), this]
        have HB : Hid (firstBad (badW ws) ws.length = (21, k)) := hbad
        have hp : (∃ _ : decide ((x.size : Int) < 2) = false, decide ((256 : Int) < (x.size : Int)) = true) ∨ decide ((x.size : Int) < 2) = true := by
          by_cases h2 : x.size < 2
          · exact .inr (decide_eq_true (by omega))
          · exact .inl ⟨decide_eq_false (by omega), decide_eq_true (by omega)⟩
        have HW1 := (hbr.block (z + 1) (by omega)).trans hY1
        have hB1 := hb2.trans (hbr.mono hb2.size)
        have x0 := cell_of_block HW1 (i := 0)
        have x1 := cell_of_block HW1 (i := 1)
        have x2 := cell_of_block HW1 (i := 2)
        have f0 := fun j => unfrozen_of_block HW1 j
        clear hW' hWr hY1 hbad hs
        rcases hp with ⟨g1, g2⟩ | g1
        all_goals
          go_wp2_with fail
          have hfin := wr_set HW1 (u0 := .int .i64 21) (u1 := .int .i64 4) (u2 := .int .i64 (k : Int))
          have hBf := wr_below hB1 (g := z + 1) (u0 := .int .i64 21) (u1 := .int .i64 4) (u2 := .int .i64 (k : Int)) (by rw [HZ.out]; omega)
          obtain ⟨Wf, hWf⟩ : ∃ Wf, Wf = (((wr.setCell ⟨z + 1, 0, none⟩ (.int .i64 21)).setCell ⟨z + 1, 1, none⟩ (.int .i64 4)).setCell ⟨z + 1, 2, none⟩ (.int .i64 (k : Int))) := ⟨_, rfl⟩
          rw [← hWf] at hfin hBf ⊢
          have y0 := cell_of_block hfin (i := 0)
          have y1 := cell_of_block hfin (i := 1)
          have y2 := cell_of_block hfin (i := 2)
          exact bodyPost_ret (v := .agg #[.int .i64 21, .int .i64 4, .int .i64 (k : Int)]) (by simp [results, Tryd.results59, go_sem, y0, y1, y2]) rfl ⟨by rw [HE.out, HB.out]; rfl, hBf⟩

      · have g1 : decide ((x.size : Int) < 2) = false := decide_eq_false (by omega)
        have g2 : decide ((256 : Int) < (x.size : Int)) = false := decide_eq_false (by omega)
        have HS : Hid (¬ (x.size < 2 ∨ 256 < x.size)) := hs
        clear hs
        go_wp2_with fail
        obtain ⟨V, hV⟩ : ∃ V, V = wr := ⟨_, rfl⟩
        obtain rfl := hV.symm
        clear x0 hc hV
        go_loopw [4] (fun i wr => ∃ j : Nat, j ≤ k ∧ i = .int .i64 j ∧ (ws.take j).any (fun v => decide (v = x)) = false ∧ Below Y.heap.size Y wr) (fun i _ => k - (intOf i).toNat)
        case atStart => exact ⟨0, Nat.zero_le _, rfl, by simp, hbr⟩
        case round =>
          clear hbr hWr
          obtain ⟨j, hj, rfl, hno, hbr⟩ := hrel
          have x0 := (hD2.below hbr (by omega)).c0
          have HNO : Hid ((ws.take j).any (fun v => decide (v = x)) = false) := hno
          clear hno
          by_cases hjk : j < k
          · obtain ⟨y, hy⟩ : ∃ y, ws[j]? = some y := ⟨_, List.getElem?_eq_getElem (by omega)⟩
            have HY : Hid (ws[j]? = some y) := hy
            have g3 : decide ((j : Int) < (k : Int)) = true := decide_eq_true (by omega)
            have hWr := hW'.below hbr
            obtain ⟨bw', off', he, hc⟩ := hWr.at_ HX.out
            obtain ⟨bw'', off'', he', hc'⟩ := hWr.at_ hy
            cases he
            cases he'
            clear hy
            have hq : (y.toList == x.toList) = decide (y = x) := strEq_dec y x
            obtain ⟨v, hv⟩ : ∃ v, v = decide (y = x) := ⟨_, rfl⟩
            rw [← hv] at hq
            have HV : Hid (v = decide (y = x)) := hv
            clear hv hWr
            go_wp2_with fail
            go_quiet (fail)
            have hbq := below_drewN hbr nq
            obtain ⟨Wq, hWq⟩ : ∃ Wq, Wq = wr.drewN nq := ⟨_, rfl⟩
            rw [← hWq] at hbq ⊢
            clear hWq hbr x0 hc hc' hq
            cases v with
            | true =>
              have hbad : firstBad (badW ws) ws.length = (22, k) := by
                have := badW_twice HX.out HS.out (any_take_hit HY.out hjk _ HV.out.symm)
                rw [firstBad_some hlt HOK.out (by rw [this]; decide), this]
              have HB : Hid (firstBad (badW ws) ws.length = (22, k)) := hbad
              have HW1 := (hbq.block (z + 1) (by omega)).trans hY1
              have hB1 := hb2.trans (hbq.mono hb2.size)
              have x0 := cell_of_block HW1 (i := 0)
              have x1 := cell_of_block HW1 (i := 1)
              have x2 := cell_of_block HW1 (i := 2)
              have f0 := fun j => unfrozen_of_block HW1 j
              clear hW' hY1 hbad
              go_wp2_with fail
              have hfin := wr_set HW1 (u0 := .int .i64 22) (u1 := .int .i64 4) (u2 := .int .i64 (k : Int))
              have hBf := wr_below hB1 (g := z + 1) (u0 := .int .i64 22) (u1 := .int .i64 4) (u2 := .int .i64 (k : Int)) (by rw [HZ.out]; omega)
              obtain ⟨Wf, hWf⟩ : ∃ Wf, Wf = (((Wq.setCell ⟨z + 1, 0, none⟩ (.int .i64 22)).setCell ⟨z + 1, 1, none⟩ (.int .i64 4)).setCell ⟨z + 1, 2, none⟩ (.int .i64 (k : Int))) := ⟨_, rfl⟩
              rw [← hWf] at hfin hBf ⊢
              have y0 := cell_of_block hfin (i := 0)
              have y1 := cell_of_block hfin (i := 1)
              have y2 := cell_of_block hfin (i := 2)
              exact bodyPost_ret (v := .agg #[.int .i64 22, .int .i64 4, .int .i64 (k : Int)]) (by simp [results, Tryd.results59, go_sem, y0, y1, y2]) rfl ⟨by rw [HE.out, HB.out]; rfl, hBf⟩

            | false =>
              go_wp2_with fail
              refine ⟨⟨j + 1, by omega, by go_num, ?_, hbq⟩, by simp only [intOf]; omega⟩
              rw [any_take_snoc HY.out, HNO.out, Bool.false_or]
              exact HV.out.symm
          · have hjk' : j = k := by omega
            subst hjk'
            have hbad := badW_ok HX.out HS.out HNO.out
            have HB : Hid (badW ws j = 0) := hbad
            clear hbad
            go_wp2_with fail
            exact ⟨⟨j + 1, by omega, by go_num, fun i hi => by
              by_cases e : i = j
              · rw [e]; exact HB.out
              · exact HOK.out i (by omega), hbr⟩, by simp only [intOf]; omega⟩
    · have hkn : k = ws.length := by omega
      subst hkn
      have HB : Hid (firstBad (badW ws) ws.length = (0, 0)) := firstBad_none HOK.out
      have HW1 := (hbr.block (z + 1) (by omega)).trans hY1
      have hB1 := hb2.trans (hbr.mono hb2.size)
      have xx0 := cell_of_block HW1 (i := 0)
      have x1 := cell_of_block HW1 (i := 1)
      have x2 := cell_of_block HW1 (i := 2)
      have f0 := fun j => unfrozen_of_block HW1 j
      clear hW' hY1
      go_wp2_with fail
      have hfin := wr_set HW1 (u0 := .int .i64 0) (u1 := .int .i64 0) (u2 := .int .i64 0)
      have hBf := wr_below hB1 (g := z + 1) (u0 := .int .i64 0) (u1 := .int .i64 0) (u2 := .int .i64 0) (by rw [HZ.out]; omega)
      obtain ⟨Wf, hWf⟩ : ∃ Wf, Wf = (((wr.setCell ⟨z + 1, 0, none⟩ (.int .i64 0)).setCell ⟨z + 1, 1, none⟩ (.int .i64 0)).setCell ⟨z + 1, 2, none⟩ (.int .i64 0)) := ⟨_, rfl⟩
      rw [← hWf] at hfin hBf ⊢
      have y0 := cell_of_block hfin (i := 0)
      have y1 := cell_of_block hfin (i := 1)
      have y2 := cell_of_block hfin (i := 2)
      exact bodyPost_ret (v := .agg #[.int .i64 0, .int .i64 0, .int .i64 0]) (by simp [results, Tryd.results59, go_sem, y0, y1, y2]) rfl ⟨by rw [HE.out, HB.out]; rfl, hBf⟩

end Go.Proofs.YtlnebbciefdpoaaDoor
