import Derived.Test.YtjbdhakogbolkaaDoorJ1
import Derived.Test.YtjbdhakogbolkaaDoorJ2
import Derived.Maps.OwnSet
import Derived.Maps.OwnOps
import Derived.WideKeyPair
section
/- tesseraref5.words: its contract. -/
namespace Go.Proofs.YtjbdhakogbolkaaDoor
open Go.RowKit Go.Sort Go.Joins
/-- A refusal of the list li. -/
def fbV (li : Nat) (p : Nat × Nat) : Value := .agg #[.int .i64 (p.1 : Nat), .int .i64 ((if p.1 = 0 then 0 else li : Nat) : Int), .int .i64 (p.2 : Nat)]
theorem strEq_dec (a b : ByteArray) : (a.toList == b.toList) = decide (a = b) := by
  rw [ByteArray.toList_eq, ByteArray.toList_eq, Bool.eq_iff_iff, decide_eq_true_iff]
  constructor
  · intro h
    have h : a.data.toList = b.data.toList := by simpa using h
    cases a; cases b
    simp at h
    rw [h]
  · rintro rfl
    simp
theorem badW_size {ws : List ByteArray} {k : Nat} {x : ByteArray} (hx : ws[k]? = some x) (h : x.size < 2 ∨ 256 < x.size) : badW ws k = 21 := by
  unfold badW; rw [hx]; simp only; rw [if_pos h]
theorem badW_twice {ws : List ByteArray} {k : Nat} {x : ByteArray} (hx : ws[k]? = some x) (h : ¬ (x.size < 2 ∨ 256 < x.size)) (ht : (ws.take k).any (fun v => decide (v = x)) = true) : badW ws k = 22 := by
  unfold badW; rw [hx]; simp only; rw [if_neg h, if_pos ht]
theorem badW_ok {ws : List ByteArray} {k : Nat} {x : ByteArray} (hx : ws[k]? = some x) (h : ¬ (x.size < 2 ∨ 256 < x.size)) (ht : (ws.take k).any (fun v => decide (v = x)) = false) : badW ws k = 0 := by
  unfold badW; rw [hx]; simp only; rw [if_neg h, if_neg (by rw [ht]; simp)]
theorem any_take_snoc {α : Type} {l : List α} {k : Nat} {x : α} (h : l[k]? = some x) (p : α → Bool) : (l.take (k + 1)).any p = ((l.take k).any p || p x) := by
  rw [List.take_add_one, h]; simp
theorem any_take_hit {α : Type} {l : List α} {k n : Nat} {x : α} (h : l[k]? = some x) (hk : k < n) (p : α → Bool) (hp : p x = true) : (l.take n).any p = true := by
  rw [List.any_eq_true]
  exact ⟨x, List.mem_iff_getElem?.2 ⟨k, by rw [List.getElem?_take_of_lt hk]; exact h⟩, hp⟩
set_option maxRecDepth 100000 in
set_option maxHeartbeats 4000000 in
theorem refWords_any (aw am a b c : Option Addr) (cw nm cm na ca nb cb nc cc : Nat) (ws : List ByteArray) (w : World) (hn : ws.length ≤ 4611686018427387904) (hW : WSP w aw ws) :
    Calls Tryd.prog 48 #[.agg #[.slice aw ws.length cw, .slice am nm cm, .slice a na ca, .slice b nb cb, .slice c nc cc]] w fun e w' => e = .returned (fbV 4 (firstBad (badW ws) ws.length)) ∧ Below w.heap.size w w' := by
  have hD := DBox.new w (.slice aw ws.length cw) (.slice am nm cm) (.slice a na ca) (.slice b nb cb) (.slice c nc cc)
  have hb := box_below w (.cells #[.slice aw ws.length cw, .slice am nm cm, .slice a na ca, .slice b nb cb, .slice c nc cc] 30)
  have hY1 := heap_alloc_new (w.alloc (.cells #[.slice aw ws.length cw, .slice am nm cm, .slice a na ca, .slice b nb cb, .slice c nc cc] 30)) (.cells #[.int .i64 0, .int .i64 0, .int .i64 0] 72)
  have hb2 := hb.alloc hb.size (.cells #[.int .i64 0, .int .i64 0, .int .i64 0] 72)
  have hD2 := hD.below (box_below (w.alloc (.cells #[.slice aw ws.length cw, .slice am nm cm, .slice a na ca, .slice b nb cb, .slice c nc cc] 30)) (.cells #[.int .i64 0, .int .i64 0, .int .i64 0] 72)) hD.lt
  have hW' := hW.below hb2
  have hsz : ((w.alloc (.cells #[.slice aw ws.length cw, .slice am nm cm, .slice a na ca, .slice b nb cb, .slice c nc cc] 30)).alloc (.cells #[.int .i64 0, .int .i64 0, .int .i64 0] 72)).heap.size = w.heap.size + 1 + 1 := by simp
  rw [show (w.alloc (.cells #[.slice aw ws.length cw, .slice am nm cm, .slice a na ca, .slice b nb cb, .slice c nc cc] 30)).heap.size = w.heap.size + 1 by simp] at hY1
  obtain ⟨E, hE⟩ : ∃ E, E = firstBad (badW ws) ws.length := ⟨_, rfl⟩
  have HE : Hid (E = firstBad (badW ws) ws.length) := hE
  rw [← hE]
  clear hD hb hW hE
  go_enter Tryd.func48, Tryd.ntmps48
  go_wp2_with fail
  obtain ⟨Y, hY⟩ : ∃ Y, Y = (w.alloc (.cells #[.slice aw ws.length cw, .slice am nm cm, .slice a na ca, .slice b nb cb, .slice c nc cc] 30)).alloc (.cells #[.int .i64 0, .int .i64 0, .int .i64 0] 72) := ⟨_, rfl⟩
  rw [← hY] at hb2 hD2 hW' hY1 hsz ⊢
  clear hY
  obtain ⟨z, hz⟩ : ∃ z, z = w.heap.size := ⟨_, rfl⟩
  have HZ : Hid (z = w.heap.size) := hz
  rw [← hz] at hD2 hY1 hsz ⊢
  clear hz
  go_loopw [3] (fun i wr => ∃ k : Nat, k ≤ ws.length ∧ i = .int .i64 k ∧ (∀ j, j < k → badW ws j = 0) ∧ Below Y.heap.size Y wr) (fun i _ => ws.length - (intOf i).toNat)
  case atStart => exact ⟨0, Nat.zero_le _, rfl, fun j hj => absurd hj (Nat.not_lt_zero _), Below.refl _ _⟩
  case round =>
    obtain ⟨k, hk, rfl, hok, hbr⟩ := hrel
    have x0 := (hD2.below hbr (by omega)).c0
    have HOK : Hid (∀ j, j < k → badW ws j = 0) := hok
    clear hok
    by_cases hlt : k < ws.length
    · obtain ⟨x, hx⟩ : ∃ x, ws[k]? = some x := ⟨_, List.getElem?_eq_getElem hlt⟩
      have g0 : decide ((k : Int) < (ws.length : Int)) = true := decide_eq_true (by omega)
      have HX : Hid (ws[k]? = some x) := hx
      have hWr := hW'.below hbr
      obtain ⟨bw, off, rfl, hc⟩ := hWr.at_ hx
      clear hx
      by_cases hs : x.size < 2 ∨ 256 < x.size
      · have hbad : firstBad (badW ws) ws.length = (21, k) := by
          have := badW_size HX.out hs
          rw [firstBad_some hlt HOK.out (by rw [this]; decide), this]
        have HB : Hid (firstBad (badW ws) ws.length = (21, k)) := hbad
        have hp : (∃ _ : decide ((x.size : Int) < 2) = false, decide ((256 : Int) < (x.size : Int)) = true) ∨ decide ((x.size : Int) < 2) = true := by
          by_cases h2 : x.size < 2
          · exact .inr (decide_eq_true (by omega))
          · exact .inl ⟨decide_eq_false (by omega), decide_eq_true (by omega)⟩
        have HW1 := (hbr.block (z + 1) (by omega)).trans hY1
        have hB1 := hb2.trans (hbr.mono hb2.size)
        have x0 := cell_of_block HW1 (i := 0)
        have x1 := cell_of_block HW1 (i := 1)
        have x2 := cell_of_block HW1 (i := 2)
        have f0 := fun j => unfrozen_of_block HW1 j
        clear hW' hWr hY1 hbad hs
        rcases hp with ⟨g1, g2⟩ | g1
        all_goals
          go_wp2_with fail
          have hfin := wr_set HW1 (u0 := .int .i64 21) (u1 := .int .i64 4) (u2 := .int .i64 (k : Int))
          have hBf := wr_below hB1 (g := z + 1) (u0 := .int .i64 21) (u1 := .int .i64 4) (u2 := .int .i64 (k : Int)) (by rw [HZ.out]; omega)
          obtain ⟨Wf, hWf⟩ : ∃ Wf, Wf = (((wr.setCell ⟨z + 1, 0, none⟩ (.int .i64 21)).setCell ⟨z + 1, 1, none⟩ (.int .i64 4)).setCell ⟨z + 1, 2, none⟩ (.int .i64 (k : Int))) := ⟨_, rfl⟩
          rw [← hWf] at hfin hBf ⊢
          have y0 := cell_of_block hfin (i := 0)
          have y1 := cell_of_block hfin (i := 1)
          have y2 := cell_of_block hfin (i := 2)
          exact bodyPost_ret (v := .agg #[.int .i64 21, .int .i64 4, .int .i64 (k : Int)]) (by simp [results, Tryd.results48, go_sem, y0, y1, y2]) rfl ⟨by rw [HE.out, HB.out]; rfl, hBf⟩

      · have g1 : decide ((x.size : Int) < 2) = false := decide_eq_false (by omega)
        have g2 : decide ((256 : Int) < (x.size : Int)) = false := decide_eq_false (by omega)
        have HS : Hid (¬ (x.size < 2 ∨ 256 < x.size)) := hs
        clear hs
        go_wp2_with fail
        obtain ⟨V, hV⟩ : ∃ V, V = wr := ⟨_, rfl⟩
        obtain rfl := hV.symm
        clear x0 hc hV
        go_loopw [4] (fun i wr => ∃ j : Nat, j ≤ k ∧ i = .int .i64 j ∧ (ws.take j).any (fun v => decide (v = x)) = false ∧ Below Y.heap.size Y wr) (fun i _ => k - (intOf i).toNat)
        case atStart => exact ⟨0, Nat.zero_le _, rfl, by simp, hbr⟩
        case round =>
          clear hbr hWr
          obtain ⟨j, hj, rfl, hno, hbr⟩ := hrel
          have x0 := (hD2.below hbr (by omega)).c0
          have HNO : Hid ((ws.take j).any (fun v => decide (v = x)) = false) := hno
          clear hno
          by_cases hjk : j < k
          · obtain ⟨y, hy⟩ : ∃ y, ws[j]? = some y := ⟨_, List.getElem?_eq_getElem (by omega)⟩
            have HY : Hid (ws[j]? = some y) := hy
            have g3 : decide ((j : Int) < (k : Int)) = true := decide_eq_true (by omega)
            have hWr := hW'.below hbr
            obtain ⟨bw', off', he, hc⟩ := hWr.at_ HX.out
            obtain ⟨bw'', off'', he', hc'⟩ := hWr.at_ hy
            cases he
            cases he'
            clear hy
            have hq : (y.toList == x.toList) = decide (y = x) := strEq_dec y x
            obtain ⟨v, hv⟩ : ∃ v, v = decide (y = x) := ⟨_, rfl⟩
            rw [← hv] at hq
            have HV : Hid (v = decide (y = x)) := hv
            clear hv hWr
            go_wp2_with fail
            go_quiet (fail)
            have hbq := below_drewN hbr nq
            obtain ⟨Wq, hWq⟩ : ∃ Wq, Wq = wr.drewN nq := ⟨_, rfl⟩
            rw [← hWq] at hbq ⊢
            clear hWq hbr x0 hc hc' hq
            cases v with
            | true =>
              have hbad : firstBad (badW ws) ws.length = (22, k) := by
                have := badW_twice HX.out HS.out (any_take_hit HY.out hjk _ HV.out.symm)
                rw [firstBad_some hlt HOK.out (by rw [this]; decide), this]
              have HB : Hid (firstBad (badW ws) ws.length = (22, k)) := hbad
              have HW1 := (hbq.block (z + 1) (by omega)).trans hY1
              have hB1 := hb2.trans (hbq.mono hb2.size)
              have x0 := cell_of_block HW1 (i := 0)
              have x1 := cell_of_block HW1 (i := 1)
              have x2 := cell_of_block HW1 (i := 2)
              have f0 := fun j => unfrozen_of_block HW1 j
              clear hW' hY1 hbad
              go_wp2_with fail
              have hfin := wr_set HW1 (u0 := .int .i64 22) (u1 := .int .i64 4) (u2 := .int .i64 (k : Int))
              have hBf := wr_below hB1 (g := z + 1) (u0 := .int .i64 22) (u1 := .int .i64 4) (u2 := .int .i64 (k : Int)) (by rw [HZ.out]; omega)
              obtain ⟨Wf, hWf⟩ : ∃ Wf, Wf = (((Wq.setCell ⟨z + 1, 0, none⟩ (.int .i64 22)).setCell ⟨z + 1, 1, none⟩ (.int .i64 4)).setCell ⟨z + 1, 2, none⟩ (.int .i64 (k : Int))) := ⟨_, rfl⟩
              rw [← hWf] at hfin hBf ⊢
              have y0 := cell_of_block hfin (i := 0)
              have y1 := cell_of_block hfin (i := 1)
              have y2 := cell_of_block hfin (i := 2)
              exact bodyPost_ret (v := .agg #[.int .i64 22, .int .i64 4, .int .i64 (k : Int)]) (by simp [results, Tryd.results48, go_sem, y0, y1, y2]) rfl ⟨by rw [HE.out, HB.out]; rfl, hBf⟩

            | false =>
              go_wp2_with fail
              refine ⟨⟨j + 1, by omega, by go_num, ?_, hbq⟩, by simp only [intOf]; omega⟩
              rw [any_take_snoc HY.out, HNO.out, Bool.false_or]
              exact HV.out.symm
          · have hjk' : j = k := by omega
            subst hjk'
            have hbad := badW_ok HX.out HS.out HNO.out
            have HB : Hid (badW ws j = 0) := hbad
            clear hbad
            go_wp2_with fail
            exact ⟨⟨j + 1, by omega, by go_num, fun i hi => by
              by_cases e : i = j
              · rw [e]; exact HB.out
              · exact HOK.out i (by omega), hbr⟩, by simp only [intOf]; omega⟩
    · have hkn : k = ws.length := by omega
      subst hkn
      have HB : Hid (firstBad (badW ws) ws.length = (0, 0)) := firstBad_none HOK.out
      have HW1 := (hbr.block (z + 1) (by omega)).trans hY1
      have hB1 := hb2.trans (hbr.mono hb2.size)
      have xx0 := cell_of_block HW1 (i := 0)
      have x1 := cell_of_block HW1 (i := 1)
      have x2 := cell_of_block HW1 (i := 2)
      have f0 := fun j => unfrozen_of_block HW1 j
      clear hW' hY1
      go_wp2_with fail
      have hfin := wr_set HW1 (u0 := .int .i64 0) (u1 := .int .i64 0) (u2 := .int .i64 0)
      have hBf := wr_below hB1 (g := z + 1) (u0 := .int .i64 0) (u1 := .int .i64 0) (u2 := .int .i64 0) (by rw [HZ.out]; omega)
      obtain ⟨Wf, hWf⟩ : ∃ Wf, Wf = (((wr.setCell ⟨z + 1, 0, none⟩ (.int .i64 0)).setCell ⟨z + 1, 1, none⟩ (.int .i64 0)).setCell ⟨z + 1, 2, none⟩ (.int .i64 0)) := ⟨_, rfl⟩
      rw [← hWf] at hfin hBf ⊢
      have y0 := cell_of_block hfin (i := 0)
      have y1 := cell_of_block hfin (i := 1)
      have y2 := cell_of_block hfin (i := 2)
      exact bodyPost_ret (v := .agg #[.int .i64 0, .int .i64 0, .int .i64 0]) (by simp [results, Tryd.results48, go_sem, y0, y1, y2]) rfl ⟨by rw [HE.out, HB.out]; rfl, hBf⟩

end Go.Proofs.YtjbdhakogbolkaaDoor
end
section
/- tesseraref5.merges: its contract. -/
namespace Go.Proofs.YtjbdhakogbolkaaDoor
open Go.RowKit Go.Sort Go.Joins
def W64 (n : Int) : Prop := -9223372036854775808 ≤ n ∧ n ≤ 9223372036854775807
/-- Each number of each merge is an int. -/
def MWf (ms : List Mg) : Prop := ∀ (i : Nat) (x : Mg), ms[i]? = some x → W64 x.l ∧ W64 x.r ∧ W64 x.i
theorem cutM_24 {ws : List ByteArray} {ms : List Mg} {k : Nat} {x : Mg} (hx : ms[k]? = some x) (h : x.i < 256 ∨ (ws.length : Int) ≤ x.i - 256 ∨ madeM ms k x.i = true) : cutM ws ms k = 24 := by
  unfold cutM; rw [hx]; simp only; rw [if_pos h]
theorem cutM_23 {ws : List ByteArray} {ms : List Mg} {k : Nat} {x : Mg} (hx : ms[k]? = some x) (h : ¬ (x.i < 256 ∨ (ws.length : Int) ≤ x.i - 256 ∨ madeM ms k x.i = true)) (h2 : madeM ms k x.l = false ∨ madeM ms k x.r = false) : cutM ws ms k = 23 := by
  unfold cutM; rw [hx]; simp only; rw [if_neg h, if_pos h2]
theorem cutM_25 {ws : List ByteArray} {ms : List Mg} {k : Nat} {x : Mg} (hx : ms[k]? = some x) (h : ¬ (x.i < 256 ∨ (ws.length : Int) ≤ x.i - 256 ∨ madeM ms k x.i = true)) (h2 : ¬ (madeM ms k x.l = false ∨ madeM ms k x.r = false)) (h3 : wordM ws x.i ≠ some (joinM ws x.l x.r)) : cutM ws ms k = 25 := by
  unfold cutM; rw [hx]; simp only; rw [if_neg h, if_neg h2, if_pos h3]
theorem cutM_ok {ws : List ByteArray} {ms : List Mg} {k : Nat} {x : Mg} (hx : ms[k]? = some x) (h : ¬ (x.i < 256 ∨ (ws.length : Int) ≤ x.i - 256 ∨ madeM ms k x.i = true)) (h2 : ¬ (madeM ms k x.l = false ∨ madeM ms k x.r = false)) (h3 : wordM ws x.i = some (joinM ws x.l x.r)) : cutM ws ms k = 0 := by
  unfold cutM; rw [hx]; simp only; rw [if_neg h, if_neg h2, if_neg (fun h => h h3)]
theorem badM_of {ws : List ByteArray} {ms : List Mg} {k c : Nat} (h : cutM ws ms k = c) (hc : c ≠ 0) : badM ws ms k = c := by
  unfold badM; rw [h, if_pos hc]
theorem badM_22 {ws : List ByteArray} {ms : List Mg} {k : Nat} {x : Mg} (hx : ms[k]? = some x) (h : cutM ws ms k = 0) (ht : (ms.take k).any (fun y => pairB y x.l x.r) = true) : badM ws ms k = 22 := by
  unfold badM; rw [h, if_neg (by decide), hx]; simp only; rw [if_pos ht]
theorem badM_ok {ws : List ByteArray} {ms : List Mg} {k : Nat} {x : Mg} (hx : ms[k]? = some x) (h : cutM ws ms k = 0) (ht : (ms.take k).any (fun y => pairB y x.l x.r) = false) : badM ws ms k = 0 := by
  unfold badM; rw [h, if_neg (by decide), hx]; simp only; rw [if_neg (by rw [ht]; simp)]
theorem wordM_size {ws : List ByteArray} (h : ∀ (i : Nat) (x : ByteArray), ws[i]? = some x → x.size ≤ 256) (id : Int) : ((wordM ws id).getD ⟨#[]⟩).size ≤ 256 := by
  unfold wordM
  split
  · show 1 ≤ 256
    decide
  · split
    · cases hx : ws[(id - 256).toNat]? with
      | none => exact Nat.zero_le _
      | some x => exact h _ _ hx
    · exact Nat.zero_le _
/-- Where a round stands: x's own block is there. -/
structure RM (Y W : World) (xb : Nat) (x : Mg) : Prop where
  bel : Below Y.heap.size Y W
  blk : W.heap[xb]? = some (.cells #[.int .i64 x.l, .int .i64 x.r, .int .i64 x.i] 24 (0, 0))
theorem RM.start {Y W : World} (x : Mg) (h : Below Y.heap.size Y W) : RM Y (W.alloc (.cells #[.int .i64 x.l, .int .i64 x.r, .int .i64 x.i] 24)) W.heap.size x :=
  ⟨h.alloc h.size _, heap_alloc_new _ _⟩
theorem RM.next {Y W W' : World} {xb : Nat} {x : Mg} (h : RM Y W xb x) (hb : Below W.heap.size W W') : RM Y W' xb x :=
  ⟨h.bel.trans (hb.mono h.bel.size), (hb.block xb (Array.getElem?_eq_some_iff.1 h.blk).1).trans h.blk⟩
theorem RM.m0 {Y W : World} {xb : Nat} {x : Mg} (h : RM Y W xb x) : W.cell? ⟨xb, 0, none⟩ = some (.int .i64 x.l) := cell_of_block h.blk 0
theorem RM.m1 {Y W : World} {xb : Nat} {x : Mg} (h : RM Y W xb x) : W.cell? ⟨xb, 1, none⟩ = some (.int .i64 x.r) := cell_of_block h.blk 1
theorem RM.m2 {Y W : World} {xb : Nat} {x : Mg} (h : RM Y W xb x) : W.cell? ⟨xb, 2, none⟩ = some (.int .i64 x.i) := cell_of_block h.blk 2
set_option maxRecDepth 100000 in
set_option maxHeartbeats 4000000 in
theorem refMerges_any (aw am a b c : Option Addr) (cw cm na ca nb cb nc cc : Nat) (ws : List ByteArray) (ms : List Mg) (w : World) (hn : ws.length ≤ 4611686018427387904) (hl : ms.length ≤ 4611686018427387904) (hwf : MWf ms) (hz6 : ∀ (i : Nat) (x : ByteArray), ws[i]? = some x → x.size ≤ 256) (hW : WSP w aw ws) (hM : MSP w am ms) :
    Calls Tryd.prog 49 #[.agg #[.slice aw ws.length cw, .slice am ms.length cm, .slice a na ca, .slice b nb cb, .slice c nc cc]] w fun e w' => e = .returned (fbV 5 (firstBad (badM ws ms) ms.length)) ∧ Below w.heap.size w w' := by
  have hD := DBox.new w (.slice aw ws.length cw) (.slice am ms.length cm) (.slice a na ca) (.slice b nb cb) (.slice c nc cc)
  have hb := box_below w (.cells #[.slice aw ws.length cw, .slice am ms.length cm, .slice a na ca, .slice b nb cb, .slice c nc cc] 30)
  have hY1 := heap_alloc_new (w.alloc (.cells #[.slice aw ws.length cw, .slice am ms.length cm, .slice a na ca, .slice b nb cb, .slice c nc cc] 30)) (.cells #[.int .i64 0, .int .i64 0, .int .i64 0] 72)
  have hb2 := hb.alloc hb.size (.cells #[.int .i64 0, .int .i64 0, .int .i64 0] 72)
  have hD2 := hD.below (box_below (w.alloc (.cells #[.slice aw ws.length cw, .slice am ms.length cm, .slice a na ca, .slice b nb cb, .slice c nc cc] 30)) (.cells #[.int .i64 0, .int .i64 0, .int .i64 0] 72)) hD.lt
  have hW' := hW.below hb2
  have hM' := hM.below hb2
  have hsz : ((w.alloc (.cells #[.slice aw ws.length cw, .slice am ms.length cm, .slice a na ca, .slice b nb cb, .slice c nc cc] 30)).alloc (.cells #[.int .i64 0, .int .i64 0, .int .i64 0] 72)).heap.size = w.heap.size + 1 + 1 := by simp
  rw [show (w.alloc (.cells #[.slice aw ws.length cw, .slice am ms.length cm, .slice a na ca, .slice b nb cb, .slice c nc cc] 30)).heap.size = w.heap.size + 1 by simp] at hY1
  obtain ⟨E, hE⟩ : ∃ E, E = firstBad (badM ws ms) ms.length := ⟨_, rfl⟩
  have HE : Hid (E = firstBad (badM ws ms) ms.length) := hE
  rw [← hE]
  clear hD hb hW hM hE
  go_enter Tryd.func49, Tryd.ntmps49
  go_wp2_with fail
  obtain ⟨Y, hY⟩ : ∃ Y, Y = (w.alloc (.cells #[.slice aw ws.length cw, .slice am ms.length cm, .slice a na ca, .slice b nb cb, .slice c nc cc] 30)).alloc (.cells #[.int .i64 0, .int .i64 0, .int .i64 0] 72) := ⟨_, rfl⟩
  rw [← hY] at hb2 hD2 hW' hM' hY1 hsz ⊢
  clear hY
  obtain ⟨z, hz⟩ : ∃ z, z = w.heap.size := ⟨_, rfl⟩
  have HZ : Hid (z = w.heap.size) := hz
  rw [← hz] at hD2 hY1 hsz ⊢
  clear hz
  go_loopw [3] (fun i wr => ∃ k : Nat, k ≤ ms.length ∧ i = .int .i64 k ∧ (∀ j, j < k → badM ws ms j = 0) ∧ Below Y.heap.size Y wr) (fun i _ => ms.length - (intOf i).toNat)
  case atStart => exact ⟨0, Nat.zero_le _, rfl, fun j hj => absurd hj (Nat.not_lt_zero _), Below.refl _ _⟩
  case round =>
    obtain ⟨k, hk, rfl, hok, hbr⟩ := hrel
    have HOK : Hid (∀ j, j < k → badM ws ms j = 0) := hok
    clear hok
    by_cases hlt : k < ms.length
    · obtain ⟨x, hx⟩ : ∃ x, ms[k]? = some x := ⟨_, List.getElem?_eq_getElem hlt⟩
      have g0 : decide ((k : Int) < (ms.length : Int)) = true := decide_eq_true (by omega)
      have HX : Hid (ms[k]? = some x) := hx
      obtain ⟨⟨wl1, wl2⟩, ⟨wr1, wr2⟩, wi1, wi2⟩ := hwf k x hx
      have e1 := (hD2.below hbr (by omega)).c1
      obtain ⟨bm, off, hae, hc0, hc1, hc2⟩ := (hM'.below hbr).at_ hx
      have HAE : Hid (am = some ⟨bm, off, none⟩) := hae
      rw [hae] at e1
      clear hx hae
      have hR := RM.start x hbr
      have HR : Hid (RM Y (wr.alloc (.cells #[.int .i64 x.l, .int .i64 x.r, .int .i64 x.i] 24)) wr.heap.size x) := hR
      have d0 := (hD2.below hR.bel (by omega)).c0
      have d1 := (hD2.below hR.bel (by omega)).c1
      have d2 := (hD2.below hR.bel (by omega)).c2
      have d3 := (hD2.below hR.bel (by omega)).c3
      have d4 := (hD2.below hR.bel (by omega)).c4
      have m0 := hR.m0
      have m1 := hR.m1
      have m2 := hR.m2
      clear hR
      have q0 : decide (x.i < 256) = true ∨ decide (x.i < 256) = false := by cases decide (x.i < 256) <;> simp
      rcases q0 with g1 | g1
      · have h1 : x.i < 256 := of_decide_eq_true g1
        have hR := HR.out
        have hbad : firstBad (badM ws ms) ms.length = (24, k) := by
          have := badM_of (cutM_24 (ws := ws) HX.out (.inl h1)) (by decide)
          rw [firstBad_some hlt HOK.out (by rw [this]; decide), this]
        have HB : Hid (firstBad (badM ws ms) ms.length = (24, k)) := hbad
        have HW1 := (hR.bel.block (z + 1) (by omega)).trans hY1
        have hB1 := hb2.trans (hR.bel.mono hb2.size)
        have x0 := cell_of_block HW1 (i := 0)
        have x1 := cell_of_block HW1 (i := 1)
        have x2 := cell_of_block HW1 (i := 2)
        have f0 := fun j => unfrozen_of_block HW1 j
        clear hbad hW' hM' hY1
        go_wp2_with fail
        have hfin := wr_set HW1 (u0 := .int .i64 24) (u1 := .int .i64 5) (u2 := .int .i64 (k : Int))
        have hBf := wr_below hB1 (g := z + 1) (u0 := .int .i64 24) (u1 := .int .i64 5) (u2 := .int .i64 (k : Int)) (by rw [HZ.out]; omega)
        obtain ⟨Wf, hWf⟩ : ∃ Wf, Wf = ((((wr.alloc (.cells #[.int .i64 x.l, .int .i64 x.r, .int .i64 x.i] 24)).setCell ⟨z + 1, 0, none⟩ (.int .i64 24)).setCell ⟨z + 1, 1, none⟩ (.int .i64 5)).setCell ⟨z + 1, 2, none⟩ (.int .i64 (k : Int))) := ⟨_, rfl⟩
        rw [← hWf] at hfin hBf ⊢
        have y0 := cell_of_block hfin (i := 0)
        have y1 := cell_of_block hfin (i := 1)
        have y2 := cell_of_block hfin (i := 2)
        exact bodyPost_ret (v := .agg #[.int .i64 24, .int .i64 5, .int .i64 (k : Int)]) (by simp [results, Tryd.results49, go_sem, y0, y1, y2]) rfl ⟨by rw [HE.out, HB.out]; rfl, hBf⟩

      · have h1 : ¬ x.i < 256 := of_decide_eq_false g1
        by_cases h2 : (ws.length : Int) ≤ x.i - 256
        · have g2 : decide ((ws.length : Int) ≤ x.i - 256) = true := decide_eq_true h2
          have hR := HR.out
          have hbad : firstBad (badM ws ms) ms.length = (24, k) := by
            have := badM_of (cutM_24 (ws := ws) HX.out (.inr (.inl h2))) (by decide)
            rw [firstBad_some hlt HOK.out (by rw [this]; decide), this]
          have HB : Hid (firstBad (badM ws ms) ms.length = (24, k)) := hbad
          have HW1 := (hR.bel.block (z + 1) (by omega)).trans hY1
          have hB1 := hb2.trans (hR.bel.mono hb2.size)
          have x0 := cell_of_block HW1 (i := 0)
          have x1 := cell_of_block HW1 (i := 1)
          have x2 := cell_of_block HW1 (i := 2)
          have f0 := fun j => unfrozen_of_block HW1 j
          clear hbad hW' hM' hY1
          go_wp2_with fail
          have hfin := wr_set HW1 (u0 := .int .i64 24) (u1 := .int .i64 5) (u2 := .int .i64 (k : Int))
          have hBf := wr_below hB1 (g := z + 1) (u0 := .int .i64 24) (u1 := .int .i64 5) (u2 := .int .i64 (k : Int)) (by rw [HZ.out]; omega)
          obtain ⟨Wf, hWf⟩ : ∃ Wf, Wf = ((((wr.alloc (.cells #[.int .i64 x.l, .int .i64 x.r, .int .i64 x.i] 24)).setCell ⟨z + 1, 0, none⟩ (.int .i64 24)).setCell ⟨z + 1, 1, none⟩ (.int .i64 5)).setCell ⟨z + 1, 2, none⟩ (.int .i64 (k : Int))) := ⟨_, rfl⟩
          rw [← hWf] at hfin hBf ⊢
          have y0 := cell_of_block hfin (i := 0)
          have y1 := cell_of_block hfin (i := 1)
          have y2 := cell_of_block hfin (i := 2)
          exact bodyPost_ret (v := .agg #[.int .i64 24, .int .i64 5, .int .i64 (k : Int)]) (by simp [results, Tryd.results49, go_sem, y0, y1, y2]) rfl ⟨by rw [HE.out, HB.out]; rfl, hBf⟩

        · have g2 : decide ((ws.length : Int) ≤ x.i - 256) = false := decide_eq_false h2
          go_wp2_with fail
          clear d0 d1 d2 d3 d4 m0 m1 m2 e1 hc0 hc1 hc2
          obtain ⟨V, hV⟩ : ∃ V, V = wr.alloc (.cells #[.int .i64 x.l, .int .i64 x.r, .int .i64 x.i] 24) := ⟨_, rfl⟩
          obtain ⟨xb, hxb⟩ : ∃ xb, xb = wr.heap.size := ⟨_, rfl⟩
          rw [← hV, ← hxb] at HR
          rw [← hV, ← hxb]
          clear hV hxb
          have hR := HR.out
          clear HR
          refine (refMade_any aw am a b c ws.length cw cm na ca nb cb nc cc ms k x.i V (by omega) (by omega) (hM'.below hR.bel)).mono ?_
          rintro e w1 ⟨rfl, hv1⟩
          have hR1 := hR.next hv1
          clear hR hv1
          have d0 := (hD2.below hR1.bel (by omega)).c0
          have d1 := (hD2.below hR1.bel (by omega)).c1
          have d2 := (hD2.below hR1.bel (by omega)).c2
          have d3 := (hD2.below hR1.bel (by omega)).c3
          have d4 := (hD2.below hR1.bel (by omega)).c4
          have m0 := hR1.m0
          have m1 := hR1.m1
          have m2 := hR1.m2
          have q1 : madeM ms k x.i = true ∨ madeM ms k x.i = false := by cases madeM ms k x.i <;> simp
          rcases q1 with hm1 | hm1
          · rw [hm1]
            have hbad : firstBad (badM ws ms) ms.length = (24, k) := by
              have := badM_of (cutM_24 (ws := ws) HX.out (.inr (.inr hm1))) (by decide)
              rw [firstBad_some hlt HOK.out (by rw [this]; decide), this]
            have HB : Hid (firstBad (badM ws ms) ms.length = (24, k)) := hbad
            have HW1 := (hR1.bel.block (z + 1) (by omega)).trans hY1
            have hB1 := hb2.trans (hR1.bel.mono hb2.size)
            have x0 := cell_of_block HW1 (i := 0)
            have x1 := cell_of_block HW1 (i := 1)
            have x2 := cell_of_block HW1 (i := 2)
            have f0 := fun j => unfrozen_of_block HW1 j
            clear hbad hW' hM' hY1
            go_wp2_with fail
            have hfin := wr_set HW1 (u0 := .int .i64 24) (u1 := .int .i64 5) (u2 := .int .i64 (k : Int))
            have hBf := wr_below hB1 (g := z + 1) (u0 := .int .i64 24) (u1 := .int .i64 5) (u2 := .int .i64 (k : Int)) (by rw [HZ.out]; omega)
            obtain ⟨Wf, hWf⟩ : ∃ Wf, Wf = (((w1.setCell ⟨z + 1, 0, none⟩ (.int .i64 24)).setCell ⟨z + 1, 1, none⟩ (.int .i64 5)).setCell ⟨z + 1, 2, none⟩ (.int .i64 (k : Int))) := ⟨_, rfl⟩
            rw [← hWf] at hfin hBf ⊢
            have y0 := cell_of_block hfin (i := 0)
            have y1 := cell_of_block hfin (i := 1)
            have y2 := cell_of_block hfin (i := 2)
            exact bodyPost_ret (v := .agg #[.int .i64 24, .int .i64 5, .int .i64 (k : Int)]) (by simp [results, Tryd.results49, go_sem, y0, y1, y2]) rfl ⟨by rw [HE.out, HB.out]; rfl, hBf⟩

          · have HN24 : Hid (¬ (x.i < 256 ∨ (ws.length : Int) ≤ x.i - 256 ∨ madeM ms k x.i = true)) := by
              rintro (h | h | h)
              · omega
              · omega
              · rw [hm1] at h; cases h
            rw [hm1]
            go_wp2_with fail
            clear d0 d1 d2 d3 d4 m0 m1 m2
            refine (refMade_any aw am a b c ws.length cw cm na ca nb cb nc cc ms k x.l w1 (by omega) (by omega) (hM'.below hR1.bel)).mono ?_
            rintro e w2 ⟨rfl, hv2⟩
            have hR2 := hR1.next hv2
            clear hR1 hv2
            have d0 := (hD2.below hR2.bel (by omega)).c0
            have d1 := (hD2.below hR2.bel (by omega)).c1
            have d2 := (hD2.below hR2.bel (by omega)).c2
            have d3 := (hD2.below hR2.bel (by omega)).c3
            have d4 := (hD2.below hR2.bel (by omega)).c4
            have m0 := hR2.m0
            have m1 := hR2.m1
            have m2 := hR2.m2
            have q2 : madeM ms k x.l = true ∨ madeM ms k x.l = false := by cases madeM ms k x.l <;> simp
            rcases q2 with hm2 | hm2
            · rw [hm2]
              go_wp2_with fail
              clear d0 d1 d2 d3 d4 m0 m1 m2
              refine (refMade_any aw am a b c ws.length cw cm na ca nb cb nc cc ms k x.r w2 (by omega) (by omega) (hM'.below hR2.bel)).mono ?_
              rintro e w3 ⟨rfl, hv3⟩
              have hR3 := hR2.next hv3
              clear hR2 hv3
              have d0 := (hD2.below hR3.bel (by omega)).c0
              have d1 := (hD2.below hR3.bel (by omega)).c1
              have d2 := (hD2.below hR3.bel (by omega)).c2
              have d3 := (hD2.below hR3.bel (by omega)).c3
              have d4 := (hD2.below hR3.bel (by omega)).c4
              have m0 := hR3.m0
              have m1 := hR3.m1
              have m2 := hR3.m2
              have q3 : madeM ms k x.r = true ∨ madeM ms k x.r = false := by cases madeM ms k x.r <;> simp
              rcases q3 with hm3 | hm3
              · rw [hm3]
                go_wp2_with fail
                clear d0 d1 d2 d3 d4 m0 m1 m2
                refine (refWord_any aw am a b c cw ms.length cm na ca nb cb nc cc ws x.l ⟨wl1, wl2⟩ w3 hn (hW'.below hR3.bel)).mono ?_
                rintro e w4 ⟨rfl, hv4⟩
                have hR4 := hR3.next hv4
                clear hR3 hv4
                have d0 := (hD2.below hR4.bel (by omega)).c0
                have d1 := (hD2.below hR4.bel (by omega)).c1
                have d2 := (hD2.below hR4.bel (by omega)).c2
                have d3 := (hD2.below hR4.bel (by omega)).c3
                have d4 := (hD2.below hR4.bel (by omega)).c4
                have m0 := hR4.m0
                have m1 := hR4.m1
                have m2 := hR4.m2
                unfold wdV
                obtain ⟨S1, hS1⟩ : ∃ S, S = (wordM ws x.l).getD ⟨#[]⟩ := ⟨_, rfl⟩
                obtain ⟨T1, hT1⟩ : ∃ S, S = (wordM ws x.l).isSome := ⟨_, rfl⟩
                rw [← hS1, ← hT1]
                have HS1 : Hid (S1 = (wordM ws x.l).getD ⟨#[]⟩) := hS1
                clear hS1 hT1
                go_wp2_with fail
                clear d0 d1 d2 d3 d4 m0 m1 m2
                refine (refWord_any aw am a b c cw ms.length cm na ca nb cb nc cc ws x.r ⟨wr1, wr2⟩ w4 hn (hW'.below hR4.bel)).mono ?_
                rintro e w5 ⟨rfl, hv5⟩
                have hR5 := hR4.next hv5
                clear hR4 hv5
                have d0 := (hD2.below hR5.bel (by omega)).c0
                have d1 := (hD2.below hR5.bel (by omega)).c1
                have d2 := (hD2.below hR5.bel (by omega)).c2
                have d3 := (hD2.below hR5.bel (by omega)).c3
                have d4 := (hD2.below hR5.bel (by omega)).c4
                have m0 := hR5.m0
                have m1 := hR5.m1
                have m2 := hR5.m2
                unfold wdV
                obtain ⟨S2, hS2⟩ : ∃ S, S = (wordM ws x.r).getD ⟨#[]⟩ := ⟨_, rfl⟩
                obtain ⟨T2, hT2⟩ : ∃ S, S = (wordM ws x.r).isSome := ⟨_, rfl⟩
                rw [← hS2, ← hT2]
                have HS2 : Hid (S2 = (wordM ws x.r).getD ⟨#[]⟩) := hS2
                have hs1 : S1.size ≤ 256 := by rw [HS1.out]; exact wordM_size hz6 _
                have hs2 : S2.size ≤ 256 := by rw [hS2]; exact wordM_size hz6 _
                clear hS2 hT2
                obtain ⟨X, hX⟩ : ∃ X, ws[(x.i - 256).toNat]? = some X := ⟨_, List.getElem?_eq_getElem (by omega)⟩
                have hwX : wordM ws x.i = some X := by rw [wordM_in (by omega), hX]
                obtain ⟨bw, ofw, hae, hcw⟩ := (hW'.below hR5.bel).at_ hX
                rw [hae] at d0
                clear hae
                have hq : (X.toList == (S1 ++ S2).toList) = decide (X = S1 ++ S2) := strEq_dec X (S1 ++ S2)
                obtain ⟨v, hv⟩ : ∃ v, v = decide (X = S1 ++ S2) := ⟨_, rfl⟩
                rw [← hv] at hq
                have HV : Hid (v = decide (X = S1 ++ S2)) := hv
                have HWX : Hid (wordM ws x.i = some X) := hwX
                have hJ : joinM ws x.l x.r = S1 ++ S2 := by unfold joinM; rw [← HS1.out, ← HS2.out]
                have HJ : Hid (joinM ws x.l x.r = S1 ++ S2) := hJ
                clear hv hX hwX hJ
                have HN23 : Hid (¬ (madeM ms k x.l = false ∨ madeM ms k x.r = false)) := by
                  rintro (h | h)
                  · rw [hm2] at h; cases h
                  · rw [hm3] at h; cases h
                cases v with
                | false =>
                  have hbad : firstBad (badM ws ms) ms.length = (25, k) := by
                    have := badM_of (cutM_25 (ws := ws) HX.out HN24.out HN23.out (by rw [HWX.out, HJ.out]; intro e; exact of_decide_eq_false HV.out.symm (Option.some.inj e))) (by decide)
                    rw [firstBad_some hlt HOK.out (by rw [this]; decide), this]
                  have HB : Hid (firstBad (badM ws ms) ms.length = (25, k)) := hbad
                  have HW1 := (hR5.bel.block (z + 1) (by omega)).trans hY1
                  have hB1 := hb2.trans (hR5.bel.mono hb2.size)
                  have x0 := cell_of_block HW1 (i := 0)
                  have x1 := cell_of_block HW1 (i := 1)
                  have x2 := cell_of_block HW1 (i := 2)
                  have f0 := fun j => unfrozen_of_block HW1 j
                  clear hbad hW' hM' hY1
                  go_wp2_with fail
                  have hfin := wr_set HW1 (u0 := .int .i64 25) (u1 := .int .i64 5) (u2 := .int .i64 (k : Int))
                  have hBf := wr_below hB1 (g := z + 1) (u0 := .int .i64 25) (u1 := .int .i64 5) (u2 := .int .i64 (k : Int)) (by rw [HZ.out]; omega)
                  obtain ⟨Wf, hWf⟩ : ∃ Wf, Wf = (((w5.setCell ⟨z + 1, 0, none⟩ (.int .i64 25)).setCell ⟨z + 1, 1, none⟩ (.int .i64 5)).setCell ⟨z + 1, 2, none⟩ (.int .i64 (k : Int))) := ⟨_, rfl⟩
                  rw [← hWf] at hfin hBf ⊢
                  have y0 := cell_of_block hfin (i := 0)
                  have y1 := cell_of_block hfin (i := 1)
                  have y2 := cell_of_block hfin (i := 2)
                  exact bodyPost_ret (v := .agg #[.int .i64 25, .int .i64 5, .int .i64 (k : Int)]) (by simp [results, Tryd.results49, go_sem, y0, y1, y2]) rfl ⟨by rw [HE.out, HB.out]; rfl, hBf⟩
                | true =>
                  have hc : cutM ws ms k = 0 := cutM_ok HX.out HN24.out HN23.out (by rw [HWX.out, HJ.out, of_decide_eq_true HV.out.symm])
                  have HC : Hid (cutM ws ms k = 0) := hc
                  clear hc
                  go_wp2_with fail
                  clear hq hcw
                  obtain ⟨V, hV⟩ : ∃ V, V = w5 := ⟨_, rfl⟩
                  obtain rfl := hV.symm
                  clear hV d0 d1 d2 d3 d4 m0 m1 m2
                  go_loopw [9] (fun i wr => ∃ j : Nat, j ≤ k ∧ i = .int .i64 j ∧ (ms.take j).any (fun y => pairB y x.l x.r) = false ∧ RM Y wr xb x) (fun i _ => k - (intOf i).toNat)
                  case atStart => exact ⟨0, Nat.zero_le _, rfl, by simp, hR5⟩
                  case round =>
                    clear hR5
                    obtain ⟨j, hj, rfl, hno, hR⟩ := hrel
                    have HNO : Hid ((ms.take j).any (fun y => pairB y x.l x.r) = false) := hno
                    clear hno
                    have HR : Hid (RM Y wr xb x) := hR
                    have d0 := (hD2.below hR.bel (by omega)).c0
                    have d1 := (hD2.below hR.bel (by omega)).c1
                    have d2 := (hD2.below hR.bel (by omega)).c2
                    have d3 := (hD2.below hR.bel (by omega)).c3
                    have d4 := (hD2.below hR.bel (by omega)).c4
                    have m0 := hR.m0
                    have m1 := hR.m1
                    have m2 := hR.m2
                    rw [HAE.out] at d1
                    by_cases hjk : j < k
                    · obtain ⟨y, hy⟩ : ∃ y, ms[j]? = some y := ⟨_, List.getElem?_eq_getElem (by omega)⟩
                      have HY : Hid (ms[j]? = some y) := hy
                      have g3 : decide ((j : Int) < (k : Int)) = true := decide_eq_true (by omega)
                      obtain ⟨bm', off', hae', hc0, hc1, hc2⟩ := (hM'.below hR.bel).at_ hy
                      rw [HAE.out] at hae'
                      cases hae'
                      clear hy hR
                      have q1 : (y.l == x.l) = true ∨ (y.l == x.l) = false := by cases (y.l == x.l) <;> simp
                      have q2 : (y.r == x.r) = true ∨ (y.r == x.r) = false := by cases (y.r == x.r) <;> simp
                      rcases q1 with p1 | p1
                      · rcases q2 with p2 | p2
                        · have hp : pairB y x.l x.r = true := by unfold pairB; rw [p1, p2]; rfl
                          go_wp2_with fail
                          go_quiet (fail)
                          have hbq := below_drewN (Below.refl wr.heap.size wr) nq
                          obtain ⟨Wq, hWq⟩ : ∃ Wq, Wq = wr.drewN nq := ⟨_, rfl⟩
                          rw [← hWq] at hbq ⊢
                          have hR := HR.out.next hbq
                          clear hWq hbq d0 d1 d2 d3 d4 m0 m1 m2 hc0 hc1 hc2
                          have hbad : firstBad (badM ws ms) ms.length = (22, k) := by
                            have := badM_22 HX.out HC.out (any_take_hit HY.out hjk _ hp)
                            rw [firstBad_some hlt HOK.out (by rw [this]; decide), this]
                          have HB : Hid (firstBad (badM ws ms) ms.length = (22, k)) := hbad
                          have HW1 := (hR.bel.block (z + 1) (by omega)).trans hY1
                          have hB1 := hb2.trans (hR.bel.mono hb2.size)
                          have x0 := cell_of_block HW1 (i := 0)
                          have x1 := cell_of_block HW1 (i := 1)
                          have x2 := cell_of_block HW1 (i := 2)
                          have f0 := fun j => unfrozen_of_block HW1 j
                          clear hbad hW' hM' hY1
                          go_wp2_with fail
                          have hfin := wr_set HW1 (u0 := .int .i64 22) (u1 := .int .i64 5) (u2 := .int .i64 (k : Int))
                          have hBf := wr_below hB1 (g := z + 1) (u0 := .int .i64 22) (u1 := .int .i64 5) (u2 := .int .i64 (k : Int)) (by rw [HZ.out]; omega)
                          obtain ⟨Wf, hWf⟩ : ∃ Wf, Wf = (((Wq.setCell ⟨z + 1, 0, none⟩ (.int .i64 22)).setCell ⟨z + 1, 1, none⟩ (.int .i64 5)).setCell ⟨z + 1, 2, none⟩ (.int .i64 (k : Int))) := ⟨_, rfl⟩
                          rw [← hWf] at hfin hBf ⊢
                          have y0 := cell_of_block hfin (i := 0)
                          have y1 := cell_of_block hfin (i := 1)
                          have y2 := cell_of_block hfin (i := 2)
                          exact bodyPost_ret (v := .agg #[.int .i64 22, .int .i64 5, .int .i64 (k : Int)]) (by simp [results, Tryd.results49, go_sem, y0, y1, y2]) rfl ⟨by rw [HE.out, HB.out]; rfl, hBf⟩

                        · have hp : pairB y x.l x.r = false := by unfold pairB; rw [p1, p2]; rfl
                          go_wp2_with fail
                          go_quiet (fail)
                          have hbq := below_drewN (Below.refl wr.heap.size wr) nq
                          obtain ⟨Wq, hWq⟩ : ∃ Wq, Wq = wr.drewN nq := ⟨_, rfl⟩
                          rw [← hWq] at hbq ⊢
                          have hR := HR.out.next hbq
                          clear hWq hbq d0 d1 d2 d3 d4 m0 m1 m2 hc0 hc1 hc2
                          go_wp2_with fail
                          refine ⟨⟨j + 1, by omega, by go_num, ?_, hR⟩, by simp only [intOf]; omega⟩
                          rw [any_take_snoc HY.out, HNO.out, Bool.false_or]
                          exact hp
                      · have hp : pairB y x.l x.r = false := by unfold pairB; rw [p1]; rfl
                        go_wp2_with fail
                        go_quiet (fail)
                        have hbq := below_drewN (Below.refl wr.heap.size wr) nq
                        obtain ⟨Wq, hWq⟩ : ∃ Wq, Wq = wr.drewN nq := ⟨_, rfl⟩
                        rw [← hWq] at hbq ⊢
                        have hR := HR.out.next hbq
                        clear hWq hbq d0 d1 d2 d3 d4 m0 m1 m2 hc0 hc1 hc2
                        go_wp2_with fail
                        refine ⟨⟨j + 1, by omega, by go_num, ?_, hR⟩, by simp only [intOf]; omega⟩
                        rw [any_take_snoc HY.out, HNO.out, Bool.false_or]
                        exact hp
                    · have hjk' : j = k := by omega
                      subst hjk'
                      have hbad := badM_ok HX.out HC.out HNO.out
                      have HB : Hid (badM ws ms j = 0) := hbad
                      clear hbad d0 d1 d2 d3 d4 m0 m1 m2
                      go_wp2_with fail
                      go_roundw
                      case rel => exact ⟨j + 1, by omega, by go_num, fun i hi => by
                        by_cases e : i = j
                        · rw [e]; exact HB.out
                        · exact HOK.out i (by omega), hR.bel⟩
                      case measure => simp only [intOf]; omega
              · rw [hm3]
                have hbad : firstBad (badM ws ms) ms.length = (23, k) := by
                  have := badM_of (cutM_23 (ws := ws) HX.out HN24.out (.inr hm3)) (by decide)
                  rw [firstBad_some hlt HOK.out (by rw [this]; decide), this]
                have HB : Hid (firstBad (badM ws ms) ms.length = (23, k)) := hbad
                have HW1 := (hR3.bel.block (z + 1) (by omega)).trans hY1
                have hB1 := hb2.trans (hR3.bel.mono hb2.size)
                have x0 := cell_of_block HW1 (i := 0)
                have x1 := cell_of_block HW1 (i := 1)
                have x2 := cell_of_block HW1 (i := 2)
                have f0 := fun j => unfrozen_of_block HW1 j
                clear hbad hW' hM' hY1
                go_wp2_with fail
                have hfin := wr_set HW1 (u0 := .int .i64 23) (u1 := .int .i64 5) (u2 := .int .i64 (k : Int))
                have hBf := wr_below hB1 (g := z + 1) (u0 := .int .i64 23) (u1 := .int .i64 5) (u2 := .int .i64 (k : Int)) (by rw [HZ.out]; omega)
                obtain ⟨Wf, hWf⟩ : ∃ Wf, Wf = (((w3.setCell ⟨z + 1, 0, none⟩ (.int .i64 23)).setCell ⟨z + 1, 1, none⟩ (.int .i64 5)).setCell ⟨z + 1, 2, none⟩ (.int .i64 (k : Int))) := ⟨_, rfl⟩
                rw [← hWf] at hfin hBf ⊢
                have y0 := cell_of_block hfin (i := 0)
                have y1 := cell_of_block hfin (i := 1)
                have y2 := cell_of_block hfin (i := 2)
                exact bodyPost_ret (v := .agg #[.int .i64 23, .int .i64 5, .int .i64 (k : Int)]) (by simp [results, Tryd.results49, go_sem, y0, y1, y2]) rfl ⟨by rw [HE.out, HB.out]; rfl, hBf⟩

            · rw [hm2]
              have hbad : firstBad (badM ws ms) ms.length = (23, k) := by
                have := badM_of (cutM_23 (ws := ws) HX.out HN24.out (.inl hm2)) (by decide)
                rw [firstBad_some hlt HOK.out (by rw [this]; decide), this]
              have HB : Hid (firstBad (badM ws ms) ms.length = (23, k)) := hbad
              have HW1 := (hR2.bel.block (z + 1) (by omega)).trans hY1
              have hB1 := hb2.trans (hR2.bel.mono hb2.size)
              have x0 := cell_of_block HW1 (i := 0)
              have x1 := cell_of_block HW1 (i := 1)
              have x2 := cell_of_block HW1 (i := 2)
              have f0 := fun j => unfrozen_of_block HW1 j
              clear hbad hW' hM' hY1
              go_wp2_with fail
              have hfin := wr_set HW1 (u0 := .int .i64 23) (u1 := .int .i64 5) (u2 := .int .i64 (k : Int))
              have hBf := wr_below hB1 (g := z + 1) (u0 := .int .i64 23) (u1 := .int .i64 5) (u2 := .int .i64 (k : Int)) (by rw [HZ.out]; omega)
              obtain ⟨Wf, hWf⟩ : ∃ Wf, Wf = (((w2.setCell ⟨z + 1, 0, none⟩ (.int .i64 23)).setCell ⟨z + 1, 1, none⟩ (.int .i64 5)).setCell ⟨z + 1, 2, none⟩ (.int .i64 (k : Int))) := ⟨_, rfl⟩
              rw [← hWf] at hfin hBf ⊢
              have y0 := cell_of_block hfin (i := 0)
              have y1 := cell_of_block hfin (i := 1)
              have y2 := cell_of_block hfin (i := 2)
              exact bodyPost_ret (v := .agg #[.int .i64 23, .int .i64 5, .int .i64 (k : Int)]) (by simp [results, Tryd.results49, go_sem, y0, y1, y2]) rfl ⟨by rw [HE.out, HB.out]; rfl, hBf⟩
    · have hkn : k = ms.length := by omega
      subst hkn
      have HB : Hid (firstBad (badM ws ms) ms.length = (0, 0)) := firstBad_none HOK.out
      have HW1 := (hbr.block (z + 1) (by omega)).trans hY1
      have hB1 := hb2.trans (hbr.mono hb2.size)
      have e1 := (hD2.below hbr (by omega)).c1
      have x0 := cell_of_block HW1 (i := 0)
      have x1 := cell_of_block HW1 (i := 1)
      have x2 := cell_of_block HW1 (i := 2)
      have f0 := fun j => unfrozen_of_block HW1 j
      clear hW' hM' hY1
      go_wp2_with fail
      have hfin := wr_set HW1 (u0 := .int .i64 0) (u1 := .int .i64 0) (u2 := .int .i64 0)
      have hBf := wr_below hB1 (g := z + 1) (u0 := .int .i64 0) (u1 := .int .i64 0) (u2 := .int .i64 0) (by rw [HZ.out]; omega)
      obtain ⟨Wf, hWf⟩ : ∃ Wf, Wf = (((wr.setCell ⟨z + 1, 0, none⟩ (.int .i64 0)).setCell ⟨z + 1, 1, none⟩ (.int .i64 0)).setCell ⟨z + 1, 2, none⟩ (.int .i64 0)) := ⟨_, rfl⟩
      rw [← hWf] at hfin hBf ⊢
      have y0 := cell_of_block hfin (i := 0)
      have y1 := cell_of_block hfin (i := 1)
      have y2 := cell_of_block hfin (i := 2)
      exact bodyPost_ret (v := .agg #[.int .i64 0, .int .i64 0, .int .i64 0]) (by simp [results, Tryd.results49, go_sem, y0, y1, y2]) rfl ⟨by rw [HE.out, HB.out]; rfl, hBf⟩

end Go.Proofs.YtjbdhakogbolkaaDoor
end
section
/- Maps to numbers, with keys of one kind: what they hold, as a function. -/
namespace Go.Proofs.YtjbdhakogbolkaaDoor
open Go.RowKit Go.Sort Go.Joins Go.Maps
section
variable {α : Type} {K t : TypeId} {kv : α → Value} {w : World} {b n : Nat} {f : α → Option Int}
/-- Block b is a map of n entries whose keys are of type K; f tells what it holds at the key that kv says. -/
def MapI (w : World) (K : TypeId) (kv : α → Value) (b n : Nat) (f : α → Option Int) : Prop :=
  ∃ D : DataW Unit, w.ownsMap Tryd.prog K (plainElem Tryd.prog 3) b n D ∧ Maps.size D = n ∧ ∀ x l, keyOf Tryd.prog K (kv x) = some l → Maps.has D l = (f x).isSome ∧ ∀ a, f x = some a → ∀ z, D.atKey l z = .lit (.int .i64 a)
theorem MapI.made (w : World) (K : TypeId) (kv : α → Value) : MapI (w.alloc (.map #[] 0)) K kv w.heap.size 0 (fun _ => none) :=
  ⟨.map [], World.ownsMap_made _ _ _ _, rfl, fun _ _ _ => ⟨rfl, fun _ h => by cases h⟩⟩
theorem MapI.kept {w' : World} (h : MapI w K kv b n f) (hk : w'.heap[b]? = w.heap[b]?) : MapI w' K kv b n f := by
  obtain ⟨D, ⟨es, clock, hb, F, hs, hD⟩, h2⟩ := h
  exact ⟨D, ⟨es, clock, hk.trans hb, F, hs, hD⟩, h2⟩
theorem MapI.lt (h : MapI w K kv b n f) : b < w.heap.size := by
  obtain ⟨D, h1, _⟩ := h
  exact h1.lt
theorem MapI.below {w' : World} {B : Nat} (h : MapI w K kv b n f) (hb : Below B w w') (hB : b < B) : MapI w' K kv b n f := h.kept (hb.block b hB)
theorem wf_nat (k : Nat) (h : k ≤ 9223372036854775807) : (Lit.int .i64 (k : Int)).wf = true := WalkArith.wf_i64 (by omega)
theorem zero3 (w : World) : (zeroValue 3).run Tryd.prog w = .ok (.int .i64 0) w := by kernel_rfl
theorem und3 : Tryd.prog.underlying 3 = some (.int .i64) := by kernel_rfl
theorem MapI.look (h : MapI w K kv b n f) (law : Keyed Tryd.prog K) (ht : Tryd.prog.underlying t = some (.map K 3)) {x : α} {l : Lit} (hk : keyOf Tryd.prog K (kv x) = some l) :
    (Instr.lookup t (.map (some b)) (kv x) true).run Tryd.prog w = .ok (.tuple #[.int .i64 ((f x).getD 0), .bool (f x).isSome]) w := by
  obtain ⟨D, h1, -, h2⟩ := h
  obtain ⟨v, ps, hrun, hv⟩ := h1.look_ok law ht (zero3 w) (zd := .lit (.int .i64 0)) (zp := []) (plainElem_int und3 (by decide)) hk
  obtain ⟨e1, e2⟩ := h2 x l hk
  obtain ⟨c, rfl, hc, -⟩ := plainElem_int_inv und3 hv
  rw [hrun, e1]
  have hc := congrArg Prod.fst hc
  simp only at hc
  cases hf : f x with
  | some a =>
    rw [e2 a hf] at hc
    simp at hc
    rw [hc]; rfl
  | none =>
    rw [hf] at e1
    rw [Maps.atKey_of_not_has e1] at hc
    simp at hc
    rw [← hc]; rfl
theorem MapI.get (h : MapI w K kv b n f) (law : Keyed Tryd.prog K) (ht : Tryd.prog.underlying t = some (.map K 3)) {x : α} {l : Lit} (hk : keyOf Tryd.prog K (kv x) = some l) :
    (Instr.lookup t (.map (some b)) (kv x) false).run Tryd.prog w = .ok (.int .i64 ((f x).getD 0)) w := by
  obtain ⟨D, h1, -, h2⟩ := h
  obtain ⟨c, hrun, hc, -⟩ := h1.lookup_int law ht und3 (zero3 w) hk
  obtain ⟨e1, e2⟩ := h2 x l hk
  rw [hrun]
  cases hf : f x with
  | some a =>
    rw [e2 a hf] at hc
    simp at hc
    rw [hc]; rfl
  | none =>
    rw [hf] at e1
    rw [Maps.atKey_of_not_has e1] at hc
    simp at hc
    rw [← hc]; rfl
theorem MapI.store [DecidableEq α] (h : MapI w K kv b n f) (law : Keyed Tryd.prog K) (hinj : ∀ x y, kv x = kv y → x = y) (ht : Tryd.prog.underlying t = some (.map K 3)) (hn : n < maxLen) {x : α} {l : Lit} (hk : keyOf Tryd.prog K (kv x) = some l) (hx : f x = none) {a : Int} (ha : (Lit.int .i64 a).wf = true) :
    ∃ w', (Instr.mapUpdate t (.map (some b)) (kv x) (.int .i64 a)).run Tryd.prog w = .ok () w' ∧ MapI w' K kv b (n + 1) (fun y => if y = x then some a else f y) ∧ w.grownBy w' (some b) := by
  obtain ⟨D, h1, h3, h2⟩ := h
  obtain ⟨w', hrun, r1, r2⟩ := h1.store law ht hn hk (plainElem_int (H := Unit) und3 ha)
  obtain ⟨e1, -⟩ := h2 x l hk
  rw [hx] at e1
  refine ⟨w', hrun, ⟨_, r1, ?_, ?_⟩, r2.grown⟩
  · rw [Maps.size_put (h1.tidy law), h3, e1]
    rfl
  · intro y l' hy
    by_cases hxy : y = x
    · subst hxy
      have : l' = l := Option.some.inj (hy.symm.trans hk)
      subst this
      have e0 : (fun z => if z = y then some a else f z) y = some a := if_pos rfl
      rw [e0]
      refine ⟨Maps.has_put_same h1.isMap (law.key hk) _, fun c hc z => ?_⟩
      obtain rfl := Option.some.inj hc
      exact Maps.atKey_put_same h1.isMap (law.key hk) _ _
    · have hl : l' ≠ l := fun e => hxy (hinj _ _ (law.inj (e ▸ hy) hk))
      have e0 : (fun z => if z = x then some a else f z) y = f y := if_neg hxy
      rw [e0, Maps.has_put_other hl]
      obtain ⟨c1, c2⟩ := h2 y l' hy
      exact ⟨c1, fun c hc z => by rw [Maps.atKey_put_other hl]; exact c2 c hc z⟩
theorem MapI.len (h : MapI w K kv b n f) (ht : Tryd.prog.underlying t = some (.map K 3)) (ty : TypeId) : (Builtin.len_ #[t] ty #[.map (some b)]).run Tryd.prog w = .ok (.int .i64 n) w := by
  obtain ⟨D, h1, h2, -⟩ := h
  rw [h1.len ht ty, h2]
end
section
variable {α : Type} {K : TypeId} {kv : α → Value} (w : World) {b n : Nat} {f : α → Option Int} {ops : Array Oper} {rest : List Oper} {o : Oper} {a : Act} {Q : Exit → Act → World → Prop}
/-- At the operation 'v, ok := m[k]'. -/
theorem wpList_look (hg : o.guard = none) (m x : Operand) (t : TypeId) (hop : o.op = Op.lookup t m x true) (law : Keyed Tryd.prog K) (ht : Tryd.prog.underlying t = some (.map K 3))
    (hm : a.eval m = .map (some b)) (h : MapI w K kv b n f) (y : α) (l : Lit) (hx : a.eval x = kv y) (hk : keyOf Tryd.prog K (kv y) = some l)
    (hK : wpList Tryd.prog ops Q rest (a.put o.dst (.tuple #[.int .i64 ((f y).getD 0), .bool (f y).isSome])) w) :
    wpList Tryd.prog ops Q (o :: rest) a w := by
  refine wpList_plain hg fun K' hK' => ?_
  unfold Oper.wp
  simp [execOp, hop, hm, hx, h.look law ht hk, Result.andThen]
  exact hK' _ _ (by simpa using hK)
theorem wpList_get (hg : o.guard = none) (m x : Operand) (t : TypeId) (hop : o.op = Op.lookup t m x false) (law : Keyed Tryd.prog K) (ht : Tryd.prog.underlying t = some (.map K 3))
    (hm : a.eval m = .map (some b)) (h : MapI w K kv b n f) (y : α) (l : Lit) (hx : a.eval x = kv y) (hk : keyOf Tryd.prog K (kv y) = some l)
    (hK : wpList Tryd.prog ops Q rest (a.put o.dst (.int .i64 ((f y).getD 0))) w) :
    wpList Tryd.prog ops Q (o :: rest) a w := by
  refine wpList_plain hg fun K' hK' => ?_
  unfold Oper.wp
  simp [execOp, hop, hm, hx, h.get law ht hk, Result.andThen]
  exact hK' _ _ (by simpa using hK)
theorem wpList_store [DecidableEq α] (hg : o.guard = none) (m x v : Operand) (t : TypeId) (hop : o.op = Op.mapUpdate t m x v) (law : Keyed Tryd.prog K) (hinj : ∀ x y, kv x = kv y → x = y) (ht : Tryd.prog.underlying t = some (.map K 3))
    (hm : a.eval m = .map (some b)) (h : MapI w K kv b n f) (hn : n < maxLen) (y : α) (l : Lit) (c : Int) (hx : a.eval x = kv y) (hv : a.eval v = .int .i64 c) (hk : keyOf Tryd.prog K (kv y) = some l) (hy : f y = none) (hc : (Lit.int .i64 c).wf = true)
    (hK : ∀ w', MapI w' K kv b (n + 1) (fun z => if z = y then some c else f z) → w.grownBy w' (some b) → wpList Tryd.prog ops Q rest (a.put o.dst undef) w') :
    wpList Tryd.prog ops Q (o :: rest) a w := by
  refine wpList_plain hg fun K' hK' => ?_
  obtain ⟨w', hrun, r1, r2⟩ := h.store law hinj ht hn hk hy hc
  unfold Oper.wp
  simp [execOp, hop, hm, hx, hv, hrun, Result.andThen]
  exact hK' _ _ (hK w' r1 r2)
end
end Go.Proofs.YtjbdhakogbolkaaDoor
end
