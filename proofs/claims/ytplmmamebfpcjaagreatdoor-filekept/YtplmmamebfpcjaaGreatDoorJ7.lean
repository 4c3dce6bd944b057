import Derived.Test.YtplmmamebfpcjaaGreatDoorJ6
import Derived.Test.YtplmmamebfpcjaaGreatDoorJ5
section
/- tesseraref5.merges: its contract. -/
namespace Go.Proofs.YtplmmamebfpcjaaGreatDoor
open Go.RowKit Go.Sort Go.Joins
def W64 (n : Int) : Prop := -9223372036854775808 ≤ n ∧ n ≤ 9223372036854775807
/-- Each number of each merge is an int. -/
def MWf (ms : List Mg) : Prop := ∀ (i : Nat) (x : Mg), ms[i]? = some x → W64 x.l ∧ W64 x.r ∧ W64 x.i
theorem cutM_24 {ws : List ByteArray} {ms : List Mg} {k : Nat} {x : Mg} (hx : ms[k]? = some x) (h : x.i < 256 ∨ (ws.length : Int) ≤ x.i - 256 ∨ madeM ms k x.i = true) : cutM ws ms k = 24 := by
  unfold cutM; rw [hx]; simp only; rw [if_pos h]
theorem cutM_23 {ws : List ByteArray} {ms : List Mg} {k : Nat} {x : Mg} (hx : ms[k]? = some x) (h : ¬ (x.i < 256 ∨ (ws.length : Int) ≤ x.i - 256 ∨ madeM ms k x.i = true)) (h2 : madeM ms k x.l = false ∨ madeM ms k x.r = false) : cutM ws ms k = 23 := by
  unfold cutM; rw [hx]; simp only; rw [if_neg h, if_pos h2]
theorem cutM_25 {ws : List ByteArray} {ms : List Mg} {k : Nat} {x : Mg} (hx : ms[k]? = some x) (h : ¬ (x.i < 256 ∨ (ws.length : Int) ≤ x.i - 256 ∨ madeM ms k x.i = true)) (h2 : ¬ (madeM ms k x.l = false ∨ madeM ms k x.r = false)) (h3 : wordM ws x.i ≠ some (joinM ws x.l x.r)) : cutM ws ms k = 25 := by
  unfold cutM; rw [hx]; simp only; rw [if_neg h, if_neg h2, if_pos h3]
theorem cutM_ok {ws : List ByteArray} {ms : List Mg} {k : Nat} {x : Mg} (hx : ms[k]? = some x) (h : ¬ (x.i < 256 ∨ (ws.length : Int) ≤ x.i - 256 ∨ madeM ms k x.i = true)) (h2 : ¬ (madeM ms k x.l = false ∨ madeM ms k x.r = false)) (h3 : wordM ws x.i = some (joinM ws x.l x.r)) : cutM ws ms k = 0 := by
  unfold cutM; rw [hx]; simp only; rw [if_neg h, if_neg h2, if_neg (fun h => h h3)]
theorem badM_of {ws : List ByteArray} {ms : List Mg} {k c : Nat} (h : cutM ws ms k = c) (hc : c ≠ 0) : badM ws ms k = c := by
  unfold badM; rw [h, if_pos hc]
theorem badM_22 {ws : List ByteArray} {ms : List Mg} {k : Nat} {x : Mg} (hx : ms[k]? = some x) (h : cutM ws ms k = 0) (ht : (ms.take k).any (fun y => pairB y x.l x.r) = true) : badM ws ms k = 22 := by
  unfold badM; rw [h, if_neg (by decide), hx]; simp only; rw [if_pos ht]
theorem badM_ok {ws : List ByteArray} {ms : List Mg} {k : Nat} {x : Mg} (hx : ms[k]? = some x) (h : cutM ws ms k = 0) (ht : (ms.take k).any (fun y => pairB y x.l x.r) = false) : badM ws ms k = 0 := by
  unfold badM; rw [h, if_neg (by decide), hx]; simp only; rw [if_neg (by rw [ht]; simp)]
theorem wordM_size {ws : List ByteArray} (h : ∀ (i : Nat) (x : ByteArray), ws[i]? = some x → x.size ≤ 256) (id : Int) : ((wordM ws id).getD ⟨#[]⟩).size ≤ 256 := by
  unfold wordM
  split
  · show 1 ≤ 256
    decide
  · split
    · cases hx : ws[(id - 256).toNat]? with
      | none => exact Nat.zero_le _
      | some x => exact h _ _ hx
    · exact Nat.zero_le _
/-- Where a round stands: x's own block is there. -/
structure RM (Y W : World) (xb : Nat) (x : Mg) : Prop where
  bel : Below Y.heap.size Y W
  blk : W.heap[xb]? = some (.cells #[.int .i64 x.l, .int .i64 x.r, .int .i64 x.i] 75 (0, 0))
theorem RM.start {Y W : World} (x : Mg) (h : Below Y.heap.size Y W) : RM Y (W.alloc (.cells #[.int .i64 x.l, .int .i64 x.r, .int .i64 x.i] 75)) W.heap.size x :=
  ⟨h.alloc h.size _, heap_alloc_new _ _⟩
theorem RM.next {Y W W' : World} {xb : Nat} {x : Mg} (h : RM Y W xb x) (hb : Below W.heap.size W W') : RM Y W' xb x :=
  ⟨h.bel.trans (hb.mono h.bel.size), (hb.block xb (Array.getElem?_eq_some_iff.1 h.blk).1).trans h.blk⟩
theorem RM.m0 {Y W : World} {xb : Nat} {x : Mg} (h : RM Y W xb x) : W.cell? ⟨xb, 0, none⟩ = some (.int .i64 x.l) := cell_of_block h.blk 0
theorem RM.m1 {Y W : World} {xb : Nat} {x : Mg} (h : RM Y W xb x) : W.cell? ⟨xb, 1, none⟩ = some (.int .i64 x.r) := cell_of_block h.blk 1
theorem RM.m2 {Y W : World} {xb : Nat} {x : Mg} (h : RM Y W xb x) : W.cell? ⟨xb, 2, none⟩ = some (.int .i64 x.i) := cell_of_block h.blk 2
set_option maxRecDepth 100000 in
set_option maxHeartbeats 4000000 in
theorem refMerges_any (aw am a b c : Option Addr) (cw cm na ca nb cb nc cc : Nat) (ws : List ByteArray) (ms : List Mg) (w : World) (hn : ws.length ≤ 4611686018427387904) (hl : ms.length ≤ 4611686018427387904) (hwf : MWf ms) (hz6 : ∀ (i : Nat) (x : ByteArray), ws[i]? = some x → x.size ≤ 256) (hW : WSP w aw ws) (hM : MSP w am ms) :
    Calls Tryz.prog 60 #[.agg #[.slice aw ws.length cw, .slice am ms.length cm, .slice a na ca, .slice b nb cb, .slice c nc cc]] w fun e w' => e = .returned (fbV 5 (firstBad (badM ws ms) ms.length)) ∧ Below w.heap.size w w' := by
  have hD := DBox.new w (.slice aw ws.length cw) (.slice am ms.length cm) (.slice a na ca) (.slice b nb cb) (.slice c nc cc)
  have hb := box_below w (.cells #[.slice aw ws.length cw, .slice am ms.length cm, .slice a na ca, .slice b nb cb, .slice c nc cc] 26)
  have hY1 := heap_alloc_new (w.alloc (.cells #[.slice aw ws.length cw, .slice am ms.length cm, .slice a na ca, .slice b nb cb, .slice c nc cc] 26)) (.cells #[.int .i64 0, .int .i64 0, .int .i64 0] 69)
  have hb2 := hb.alloc hb.size (.cells #[.int .i64 0, .int .i64 0, .int .i64 0] 69)
  have hD2 := hD.below (box_below (w.alloc (.cells #[.slice aw ws.length cw, .slice am ms.length cm, .slice a na ca, .slice b nb cb, .slice c nc cc] 26)) (.cells #[.int .i64 0, .int .i64 0, .int .i64 0] 69)) hD.lt
  have hW' := hW.below hb2
  have hM' := hM.below hb2
  have hsz : ((w.alloc (.cells #[.slice aw ws.length cw, .slice am ms.length cm, .slice a na ca, .slice b nb cb, .slice c nc cc] 26)).alloc (.cells #[.int .i64 0, .int .i64 0, .int .i64 0] 69)).heap.size = w.heap.size + 1 + 1 := by simp
  rw [show (w.alloc (.cells #[.slice aw ws.length cw, .slice am ms.length cm, .slice a na ca, .slice b nb cb, .slice c nc cc] 26)).heap.size = w.heap.size + 1 by simp] at hY1
  obtain ⟨E, hE⟩ : ∃ E, E = firstBad (badM ws ms) ms.length := ⟨_, rfl⟩
  have HE : Hid (E = firstBad (badM ws ms) ms.length) := hE
  rw [← hE]
  clear hD hb hW hM hE
  go_enter Tryz.func60, Tryz.ntmps60
  go_wp2_with fail
  obtain ⟨Y, hY⟩ : ∃ Y, Y = (w.alloc (.cells #[.slice aw ws.length cw, .slice am ms.length cm, .slice a na ca, .slice b nb cb, .slice c nc cc] 26)).alloc (.cells #[.int .i64 0, .int .i64 0, .int .i64 0] 69) := ⟨_, rfl⟩
  rw [← hY] at hb2 hD2 hW' hM' hY1 hsz ⊢
  clear hY
  obtain ⟨z, hz⟩ : ∃ z, z = w.heap.size := ⟨_, rfl⟩
  have HZ : Hid (z = w.heap.size) := hz
  rw [← hz] at hD2 hY1 hsz ⊢
  clear hz
  go_loopw [3] (fun i wr => ∃ k : Nat, k ≤ ms.length ∧ i = .int .i64 k ∧ (∀ j, j < k → badM ws ms j = 0) ∧ Below Y.heap.size Y wr) (fun i _ => ms.length - (intOf i).toNat)
  case atStart => exact ⟨0, Nat.zero_le _, rfl, fun j hj => absurd hj (Nat.not_lt_zero _), Below.refl _ _⟩
  case round =>
    obtain ⟨k, hk, rfl, hok, hbr⟩ := hrel
    have HOK : Hid (∀ j, j < k → badM ws ms j = 0) := hok
    clear hok
    by_cases hlt : k < ms.length
    · obtain ⟨x, hx⟩ : ∃ x, ms[k]? = some x := ⟨_, List.getElem?_eq_getElem hlt⟩
      have g0 : decide ((k : Int) < (ms.length : Int)) = true := decide_eq_true (by omega)
      have HX : Hid (ms[k]? = some x) := hx
      obtain ⟨⟨wl1, wl2⟩, ⟨wr1, wr2⟩, wi1, wi2⟩ := hwf k x hx
      have e1 := (hD2.below hbr (by omega)).c1
      obtain ⟨bm, off, hae, hc0, hc1, hc2⟩ := (hM'.below hbr).at_ hx
      have HAE : Hid (am = some ⟨bm, off, none⟩) := hae
      rw [hae] at e1
      clear hx hae
      have hR := RM.start x hbr
      have HR : Hid (RM Y (wr.alloc (.cells #[.int .i64 x.l, .int .i64 x.r, .int .i64 x.i] 75)) wr.heap.size x) := hR
      have d0 := (hD2.below hR.bel (by omega)).c0
      have d1 := (hD2.below hR.bel (by omega)).c1
      have d2 := (hD2.below hR.bel (by omega)).c2
      have d3 := (hD2.below hR.bel (by omega)).c3
      have d4 := (hD2.below hR.bel (by omega)).c4
      have m0 := hR.m0
      have m1 := hR.m1
      have m2 := hR.m2
      clear hR
      have q0 : decide (x.i < 256) = true ∨ decide (x.i < 256) = false := by cases decide (x.i < 256) <;> simp
      rcases q0 with g1 | g1
      · have h1 : x.i < 256 := of_decide_eq_true g1
        have hR := HR.out
        have hbad : firstBad (badM ws ms) ms.length = (24, k) := by
          have := badM_of (cutM_24 (ws := ws) HX.out (.inl h1)) (by decide)
          rw [firstBad_some hlt HOK.out (by rw [this]; decide), this]
        have HB : Hid (firstBad (badM ws ms) ms.length = (24, k)) := hbad
        have HW1 := (hR.bel.block (z + 1) (by omega)).trans hY1
        have hB1 := hb2.trans (hR.bel.mono hb2.size)
        have x0 := cell_of_block HW1 (i := 0)
        have x1 := cell_of_block HW1 (i := 1)
        have x2 := cell_of_block HW1 (i := 2)
        have f0 := fun j => unfrozen_of_block HW1 j
        clear hbad hW' hM' hY1
        go_wp2_with fail
        have hfin := wr_set HW1 (u0 := .int .i64 24) (u1 := .int .i64 5) (u2 := .int .i64 (k : Int))
        have hBf := wr_below hB1 (g := z + 1) (u0 := .int .i64 24) (u1 := .int .i64 5) (u2 := .int .i64 (k : Int)) (by rw [HZ.out]; omega)
        obtain ⟨Wf, hWf⟩ : ∃ Wf, Wf = ((((wr.alloc (.cells #[.int .i64 x.l, .int .i64 x.r, .int .i64 x.i] 75)).setCell ⟨z + 1, 0, none⟩ (.int .i64 24)).setCell ⟨z + 1, 1, none⟩ (.int .i64 5)).setCell ⟨z + 1, 2, none⟩ (.int .i64 (k : Int))) := ⟨_, rfl⟩
        rw [← hWf] at hfin hBf ⊢
        have y0 := cell_of_block hfin (i := 0)
        have y1 := cell_of_block hfin (i := 1)
        have y2 := cell_of_block hfin (i := 2)
        exact bodyPost_ret (v := .agg #[.int .i64 24, .int .i64 5, .int .i64 (k : Int)]) (by simp [results, Tryz.results60, go_sem, y0, y1, y2]) rfl ⟨by rw [HE.out, HB.out]; rfl, hBf⟩

      · have h1 : ¬ x.i < 256 := of_decide_eq_false g1
        by_cases h2 : (ws.length : Int) ≤ x.i - 256
        · have g2 : decide ((ws.length : Int) ≤ x.i - 256) = true := decide_eq_true h2
          have hR := HR.out
          have hbad : firstBad (badM ws ms) ms.length = (24, k) := by
            have := badM_of (cutM_24 (ws := ws) HX.out (.inr (.inl h2))) (by decide)
            rw [firstBad_some hlt HOK.out (by rw [this]; decide), this]
          have HB : Hid (firstBad (badM ws ms) ms.length = (24, k)) := hbad
          have HW1 := (hR.bel.block (z + 1) (by omega)).trans hY1
          have hB1 := hb2.trans (hR.bel.mono hb2.size)
          have x0 := cell_of_block HW1 (i := 0)
          have x1 := cell_of_block HW1 (i := 1)
          have x2 := cell_of_block HW1 (i := 2)
          have f0 := fun j => unfrozen_of_block HW1 j
          clear hbad hW' hM' hY1
          go_wp2_with fail
          have hfin := wr_set HW1 (u0 := .int .i64 24) (u1 := .int .i64 5) (u2 := .int .i64 (k : Int))
          have hBf := wr_below hB1 (g := z + 1) (u0 := .int .i64 24) (u1 := .int .i64 5) (u2 := .int .i64 (k : Int)) (by rw [HZ.out]; omega)
          obtain ⟨Wf, hWf⟩ : ∃ Wf, Wf = ((((wr.alloc (.cells #[.int .i64 x.l, .int .i64 x.r, .int .i64 x.i] 75)).setCell ⟨z + 1, 0, none⟩ (.int .i64 24)).setCell ⟨z + 1, 1, none⟩ (.int .i64 5)).setCell ⟨z + 1, 2, none⟩ (.int .i64 (k : Int))) := ⟨_, rfl⟩
          rw [← hWf] at hfin hBf ⊢
          have y0 := cell_of_block hfin (i := 0)
          have y1 := cell_of_block hfin (i := 1)
          have y2 := cell_of_block hfin (i := 2)
          exact bodyPost_ret (v := .agg #[.int .i64 24, .int .i64 5, .int .i64 (k : Int)]) (by simp [results, Tryz.results60, go_sem, y0, y1, y2]) rfl ⟨by rw [HE.out, HB.out]; rfl, hBf⟩

        · have g2 : decide ((ws.length : Int) ≤ x.i - 256) = false := decide_eq_false h2
          go_wp2_with fail
          clear d0 d1 d2 d3 d4 m0 m1 m2 e1 hc0 hc1 hc2
          obtain ⟨V, hV⟩ : ∃ V, V = wr.alloc (.cells #[.int .i64 x.l, .int .i64 x.r, .int .i64 x.i] 75) := ⟨_, rfl⟩
          obtain ⟨xb, hxb⟩ : ∃ xb, xb = wr.heap.size := ⟨_, rfl⟩
          rw [← hV, ← hxb] at HR
          rw [← hV, ← hxb]
          clear hV hxb
          have hR := HR.out
          clear HR
          refine (refMade_any aw am a b c ws.length cw cm na ca nb cb nc cc ms k x.i V (by omega) (by omega) (hM'.below hR.bel)).mono ?_
          rintro e w1 ⟨rfl, hv1⟩
          have hR1 := hR.next hv1
          clear hR hv1
          have d0 := (hD2.below hR1.bel (by omega)).c0
          have d1 := (hD2.below hR1.bel (by omega)).c1
          have d2 := (hD2.below hR1.bel (by omega)).c2
          have d3 := (hD2.below hR1.bel (by omega)).c3
          have d4 := (hD2.below hR1.bel (by omega)).c4
          have m0 := hR1.m0
          have m1 := hR1.m1
          have m2 := hR1.m2
          have q1 : madeM ms k x.i = true ∨ madeM ms k x.i = false := by cases madeM ms k x.i <;> simp
          rcases q1 with hm1 | hm1
          · rw [hm1]
            have hbad : firstBad (badM ws ms) ms.length = (24, k) := by
              have := badM_of (cutM_24 (ws := ws) HX.out (.inr (.inr hm1))) (by decide)
              rw [firstBad_some hlt HOK.out (by rw [this]; decide), this]
            have HB : Hid (firstBad (badM ws ms) ms.length = (24, k)) := hbad
            have HW1 := (hR1.bel.block (z + 1) (by omega)).trans hY1
            have hB1 := hb2.trans (hR1.bel.mono hb2.size)
            have x0 := cell_of_block HW1 (i := 0)
            have x1 := cell_of_block HW1 (i := 1)
            have x2 := cell_of_block HW1 (i := 2)
            have f0 := fun j => unfrozen_of_block HW1 j
            clear hbad hW' hM' hY1
            go_wp2_with fail
            have hfin := wr_set HW1 (u0 := .int .i64 24) (u1 := .int .i64 5) (u2 := .int .i64 (k : Int))
            have hBf := wr_below hB1 (g := z + 1) (u0 := .int .i64 24) (u1 := .int .i64 5) (u2 := .int .i64 (k : Int)) (by rw [HZ.out]; omega)
            obtain ⟨Wf, hWf⟩ : ∃ Wf, Wf = (((w1.setCell ⟨z + 1, 0, none⟩ (.int .i64 24)).setCell ⟨z + 1, 1, none⟩ (.int .i64 5)).setCell ⟨z + 1, 2, none⟩ (.int .i64 (k : Int))) := ⟨_, rfl⟩
            rw [← hWf] at hfin hBf ⊢
            have y0 := cell_of_block hfin (i := 0)
            have y1 := cell_of_block hfin (i := 1)
            have y2 := cell_of_block hfin (i := 2)
            exact bodyPost_ret (v := .agg #[.int .i64 24, .int .i64 5, .int .i64 (k : Int)]) (by simp [results, Tryz.results60, go_sem, y0, y1, y2]) rfl ⟨by rw [HE.out, HB.out]; rfl, hBf⟩

          · have HN24 : Hid (¬ (x.i < 256 ∨ (ws.length : Int) ≤ x.i - 256 ∨ madeM ms k x.i = true)) := by
              rintro (h | h | h)
              · omega
              · omega
              · rw [hm1] at h; cases h
            rw [hm1]
            go_wp2_with fail
            clear d0 d1 d2 d3 d4 m0 m1 m2
            refine (refMade_any aw am a b c ws.length cw cm na ca nb cb nc cc ms k x.l w1 (by omega) (by omega) (hM'.below hR1.bel)).mono ?_
            rintro e w2 ⟨rfl, hv2⟩
            have hR2 := hR1.next hv2
            clear hR1 hv2
            have d0 := (hD2.below hR2.bel (by omega)).c0
            have d1 := (hD2.below hR2.bel (by omega)).c1
            have d2 := (hD2.below hR2.bel (by omega)).c2
            have d3 := (hD2.below hR2.bel (by omega)).c3
            have d4 := (hD2.below hR2.bel (by omega)).c4
            have m0 := hR2.m0
            have m1 := hR2.m1
            have m2 := hR2.m2
            have q2 : madeM ms k x.l = true ∨ madeM ms k x.l = false := by cases madeM ms k x.l <;> simp
            rcases q2 with hm2 | hm2
            · rw [hm2]
              go_wp2_with fail
              clear d0 d1 d2 d3 d4 m0 m1 m2
              refine (refMade_any aw am a b c ws.length cw cm na ca nb cb nc cc ms k x.r w2 (by omega) (by omega) (hM'.below hR2.bel)).mono ?_
              rintro e w3 ⟨rfl, hv3⟩
              have hR3 := hR2.next hv3
              clear hR2 hv3
              have d0 := (hD2.below hR3.bel (by omega)).c0
              have d1 := (hD2.below hR3.bel (by omega)).c1
              have d2 := (hD2.below hR3.bel (by omega)).c2
              have d3 := (hD2.below hR3.bel (by omega)).c3
              have d4 := (hD2.below hR3.bel (by omega)).c4
              have m0 := hR3.m0
              have m1 := hR3.m1
              have m2 := hR3.m2
              have q3 : madeM ms k x.r = true ∨ madeM ms k x.r = false := by cases madeM ms k x.r <;> simp
              rcases q3 with hm3 | hm3
              · rw [hm3]
                go_wp2_with fail
                clear d0 d1 d2 d3 d4 m0 m1 m2
                refine (refWord_any aw am a b c cw ms.length cm na ca nb cb nc cc ws x.l ⟨wl1, wl2⟩ w3 hn (hW'.below hR3.bel)).mono ?_
                rintro e w4 ⟨rfl, hv4⟩
                have hR4 := hR3.next hv4
                clear hR3 hv4
                have d0 := (hD2.below hR4.bel (by omega)).c0
                have d1 := (hD2.below hR4.bel (by omega)).c1
                have d2 := (hD2.below hR4.bel (by omega)).c2
                have d3 := (hD2.below hR4.bel (by omega)).c3
                have d4 := (hD2.below hR4.bel (by omega)).c4
                have m0 := hR4.m0
                have m1 := hR4.m1
                have m2 := hR4.m2
                unfold wdV
                obtain ⟨S1, hS1⟩ : ∃ S, S = (wordM ws x.l).getD ⟨#[]⟩ := ⟨_, rfl⟩
                obtain ⟨T1, hT1⟩ : ∃ S, S = (wordM ws x.l).isSome := ⟨_, rfl⟩
                rw [← hS1, ← hT1]
                have HS1 : Hid (S1 = (wordM ws x.l).getD ⟨#[]⟩) := hS1
                clear hS1 hT1
                go_wp2_with fail
                clear d0 d1 d2 d3 d4 m0 m1 m2
                refine (refWord_any aw am a b c cw ms.length cm na ca nb cb nc cc ws x.r ⟨wr1, wr2⟩ w4 hn (hW'.below hR4.bel)).mono ?_
                rintro e w5 ⟨rfl, hv5⟩
                have hR5 := hR4.next hv5
                clear hR4 hv5
                have d0 := (hD2.below hR5.bel (by omega)).c0
                have d1 := (hD2.below hR5.bel (by omega)).c1
                have d2 := (hD2.below hR5.bel (by omega)).c2
                have d3 := (hD2.below hR5.bel (by omega)).c3
                have d4 := (hD2.below hR5.bel (by omega)).c4
                have m0 := hR5.m0
                have m1 := hR5.m1
                have m2 := hR5.m2
                unfold wdV
                obtain ⟨S2, hS2⟩ : ∃ S, S = (wordM ws x.r).getD ⟨#[]⟩ := ⟨_, rfl⟩
                obtain ⟨T2, hT2⟩ : ∃ S, S = (wordM ws x.r).isSome := ⟨_, rfl⟩
                rw [← hS2, ← hT2]
                have HS2 : Hid (S2 = (wordM ws x.r).getD ⟨#[]⟩) := hS2
                have hs1 : S1.size ≤ 256 := by rw [HS1.out]; exact wordM_size hz6 _
                have hs2 : S2.size ≤ 256 := by rw [hS2]; exact wordM_size hz6 _
                clear hS2 hT2
                obtain ⟨X, hX⟩ : ∃ X, ws[(x.i - 256).toNat]? = some X := ⟨_, List.getElem?_eq_getElem (by omega)⟩
                have hwX : wordM ws x.i = some X := by rw [wordM_in (by omega), hX]
                obtain ⟨bw, ofw, hae, hcw⟩ := (hW'.below hR5.bel).at_ hX
                rw [hae] at d0
                clear hae
                have hq : (X.toList == (S1 ++ S2).toList) = decide (X = S1 ++ S2) := strEq_dec X (S1 ++ S2)
                obtain ⟨v, hv⟩ : ∃ v, v = decide (X = S1 ++ S2) := ⟨_, rfl⟩
                rw [← hv] at hq
                have HV : Hid (v = decide (X = S1 ++ S2)) := hv
                have HWX : Hid (wordM ws x.i = some X) := hwX
                have hJ : joinM ws x.l x.r = S1 ++ S2 := by unfold joinM; rw [← HS1.out, ← HS2.out]
                have HJ : Hid (joinM ws x.l x.r = S1 ++ S2) := hJ
                clear hv hX hwX hJ
                have HN23 : Hid (¬ (madeM ms k x.l = false ∨ madeM ms k x.r = false)) := by
                  rintro (h | h)
                  · rw [hm2] at h; cases h
                  · rw [hm3] at h; cases h
                cases v with
                | false =>
                  have hbad : firstBad (badM ws ms) ms.length = (25, k) := by
                    have := badM_of (cutM_25 (ws := ws) HX.out HN24.out HN23.out (by rw [HWX.out, HJ.out]; intro e; exact of_decide_eq_false HV.out.symm (Option.some.inj e))) (by decide)
                    rw [firstBad_some hlt HOK.out (by rw [this]; decide), this]
                  have HB : Hid (firstBad (badM ws ms) ms.length = (25, k)) := hbad
                  have HW1 := (hR5.bel.block (z + 1) (by omega)).trans hY1
                  have hB1 := hb2.trans (hR5.bel.mono hb2.size)
                  have x0 := cell_of_block HW1 (i := 0)
                  have x1 := cell_of_block HW1 (i := 1)
                  have x2 := cell_of_block HW1 (i := 2)
                  have f0 := fun j => unfrozen_of_block HW1 j
                  clear hbad hW' hM' hY1
                  go_wp2_with fail
                  have hfin := wr_set HW1 (u0 := .int .i64 25) (u1 := .int .i64 5) (u2 := .int .i64 (k : Int))
                  have hBf := wr_below hB1 (g := z + 1) (u0 := .int .i64 25) (u1 := .int .i64 5) (u2 := .int .i64 (k : Int)) (by rw [HZ.out]; omega)
                  obtain ⟨Wf, hWf⟩ : ∃ Wf, Wf = (((w5.setCell ⟨z + 1, 0, none⟩ (.int .i64 25)).setCell ⟨z + 1, 1, none⟩ (.int .i64 5)).setCell ⟨z + 1, 2, none⟩ (.int .i64 (k : Int))) := ⟨_, rfl⟩
                  rw [← hWf] at hfin hBf ⊢
                  have y0 := cell_of_block hfin (i := 0)
                  have y1 := cell_of_block hfin (i := 1)
                  have y2 := cell_of_block hfin (i := 2)
                  exact bodyPost_ret (v := .agg #[.int .i64 25, .int .i64 5, .int .i64 (k : Int)]) (by simp [results, Tryz.results60, go_sem, y0, y1, y2]) rfl ⟨by rw [HE.out, HB.out]; rfl, hBf⟩
                | true =>
                  have hc : cutM ws ms k = 0 := cutM_ok HX.out HN24.out HN23.out (by rw [HWX.out, HJ.out, of_decide_eq_true HV.out.symm])
                  have HC : Hid (cutM ws ms k = 0) := hc
                  clear hc
                  go_wp2_with fail
                  clear hq hcw
                  obtain ⟨V, hV⟩ : ∃ V, V = w5 := ⟨_, rfl⟩
                  obtain rfl := hV.symm
                  clear hV d0 d1 d2 d3 d4 m0 m1 m2
                  go_loopw [9] (fun i wr => ∃ j : Nat, j ≤ k ∧ i = .int .i64 j ∧ (ms.take j).any (fun y => pairB y x.l x.r) = false ∧ RM Y wr xb x) (fun i _ => k - (intOf i).toNat)
                  case atStart => exact ⟨0, Nat.zero_le _, rfl, by simp, hR5⟩
                  case round =>
                    clear hR5
                    obtain ⟨j, hj, rfl, hno, hR⟩ := hrel
                    have HNO : Hid ((ms.take j).any (fun y => pairB y x.l x.r) = false) := hno
                    clear hno
                    have HR : Hid (RM Y wr xb x) := hR
                    have d0 := (hD2.below hR.bel (by omega)).c0
                    have d1 := (hD2.below hR.bel (by omega)).c1
                    have d2 := (hD2.below hR.bel (by omega)).c2
                    have d3 := (hD2.below hR.bel (by omega)).c3
                    have d4 := (hD2.below hR.bel (by omega)).c4
                    have m0 := hR.m0
                    have m1 := hR.m1
                    have m2 := hR.m2
                    rw [HAE.out] at d1
                    by_cases hjk : j < k
                    · obtain ⟨y, hy⟩ : ∃ y, ms[j]? = some y := ⟨_, List.getElem?_eq_getElem (by omega)⟩
                      have HY : Hid (ms[j]? = some y) := hy
                      have g3 : decide ((j : Int) < (k : Int)) = true := decide_eq_true (by omega)
                      obtain ⟨bm', off', hae', hc0, hc1, hc2⟩ := (hM'.below hR.bel).at_ hy
                      rw [HAE.out] at hae'
                      cases hae'
                      clear hy hR
                      have q1 : (y.l == x.l) = true ∨ (y.l == x.l) = false := by cases (y.l == x.l) <;> simp
                      have q2 : (y.r == x.r) = true ∨ (y.r == x.r) = false := by cases (y.r == x.r) <;> simp
                      rcases q1 with p1 | p1
                      · rcases q2 with p2 | p2
                        · have hp : pairB y x.l x.r = true := by unfold pairB; rw [p1, p2]; rfl
                          go_wp2_with fail
                          go_quiet (fail)
                          have hbq := below_drewN (Below.refl wr.heap.size wr) nq
                          obtain ⟨Wq, hWq⟩ : ∃ Wq, Wq = wr.drewN nq := ⟨_, rfl⟩
                          rw [← hWq] at hbq ⊢
                          have hR := HR.out.next hbq
                          clear hWq hbq d0 d1 d2 d3 d4 m0 m1 m2 hc0 hc1 hc2
                          have hbad : firstBad (badM ws ms) ms.length = (22, k) := by
                            have := badM_22 HX.out HC.out (any_take_hit HY.out hjk _ hp)
                            rw [firstBad_some hlt HOK.out (by rw [this]; decide), this]
                          have HB : Hid (firstBad (badM ws ms) ms.length = (22, k)) := hbad
                          have HW1 := (hR.bel.block (z + 1) (by omega)).trans hY1
                          have hB1 := hb2.trans (hR.bel.mono hb2.size)
                          have x0 := cell_of_block HW1 (i := 0)
                          have x1 := cell_of_block HW1 (i := 1)
                          have x2 := cell_of_block HW1 (i := 2)
                          have f0 := fun j => unfrozen_of_block HW1 j
                          clear hbad hW' hM' hY1
                          go_wp2_with fail
                          have hfin := wr_set HW1 (u0 := .int .i64 22) (u1 := .int .i64 5) (u2 := .int .i64 (k : Int))
                          have hBf := wr_below hB1 (g := z + 1) (u0 := .int .i64 22) (u1 := .int .i64 5) (u2 := .int .i64 (k : Int)) (by rw [HZ.out]; omega)
                          obtain ⟨Wf, hWf⟩ : ∃ Wf, Wf = (((Wq.setCell ⟨z + 1, 0, none⟩ (.int .i64 22)).setCell ⟨z + 1, 1, none⟩ (.int .i64 5)).setCell ⟨z + 1, 2, none⟩ (.int .i64 (k : Int))) := ⟨_, rfl⟩
                          rw [← hWf] at hfin hBf ⊢
                          have y0 := cell_of_block hfin (i := 0)
                          have y1 := cell_of_block hfin (i := 1)
                          have y2 := cell_of_block hfin (i := 2)
                          exact bodyPost_ret (v := .agg #[.int .i64 22, .int .i64 5, .int .i64 (k : Int)]) (by simp [results, Tryz.results60, go_sem, y0, y1, y2]) rfl ⟨by rw [HE.out, HB.out]; rfl, hBf⟩

                        · have hp : pairB y x.l x.r = false := by unfold pairB; rw [p1, p2]; rfl
                          go_wp2_with fail
                          go_quiet (fail)
                          have hbq := below_drewN (Below.refl wr.heap.size wr) nq
                          obtain ⟨Wq, hWq⟩ : ∃ Wq, Wq = wr.drewN nq := ⟨_, rfl⟩
                          rw [← hWq] at hbq ⊢
                          have hR := HR.out.next hbq
                          clear hWq hbq d0 d1 d2 d3 d4 m0 m1 m2 hc0 hc1 hc2
                          go_wp2_with fail
                          refine ⟨⟨j + 1, by omega, by go_num, ?_, hR⟩, by simp only [intOf]; omega⟩
                          rw [any_take_snoc HY.out, HNO.out, Bool.false_or]
                          exact hp
                      · have hp : pairB y x.l x.r = false := by unfold pairB; rw [p1]; rfl
                        go_wp2_with fail
                        go_quiet (fail)
                        have hbq := below_drewN (Below.refl wr.heap.size wr) nq
                        obtain ⟨Wq, hWq⟩ : ∃ Wq, Wq = wr.drewN nq := ⟨_, rfl⟩
                        rw [← hWq] at hbq ⊢
                        have hR := HR.out.next hbq
                        clear hWq hbq d0 d1 d2 d3 d4 m0 m1 m2 hc0 hc1 hc2
                        go_wp2_with fail
                        refine ⟨⟨j + 1, by omega, by go_num, ?_, hR⟩, by simp only [intOf]; omega⟩
                        rw [any_take_snoc HY.out, HNO.out, Bool.false_or]
                        exact hp
                    · have hjk' : j = k := by omega
                      subst hjk'
                      have hbad := badM_ok HX.out HC.out HNO.out
                      have HB : Hid (badM ws ms j = 0) := hbad
                      clear hbad d0 d1 d2 d3 d4 m0 m1 m2
                      go_wp2_with fail
                      go_roundw
                      case rel => exact ⟨j + 1, by omega, by go_num, fun i hi => by
                        by_cases e : i = j
                        · rw [e]; exact HB.out
                        · exact HOK.out i (by omega), hR.bel⟩
                      case measure => simp only [intOf]; omega
              · rw [hm3]
                have hbad : firstBad (badM ws ms) ms.length = (23, k) := by
                  have := badM_of (cutM_23 (ws := ws) HX.out HN24.out (.inr hm3)) (by decide)
                  rw [firstBad_some hlt HOK.out (by rw [this]; decide), this]
                have HB : Hid (firstBad (badM ws ms) ms.length = (23, k)) := hbad
                have HW1 := (hR3.bel.block (z + 1) (by omega)).trans hY1
                have hB1 := hb2.trans (hR3.bel.mono hb2.size)
                have x0 := cell_of_block HW1 (i := 0)
                have x1 := cell_of_block HW1 (i := 1)
                have x2 := cell_of_block HW1 (i := 2)
                have f0 := fun j => unfrozen_of_block HW1 j
                clear hbad hW' hM' hY1
                go_wp2_with fail
                have hfin := wr_set HW1 (u0 := .int .i64 23) (u1 := .int .i64 5) (u2 := .int .i64 (k : Int))
                have hBf := wr_below hB1 (g := z + 1) (u0 := .int .i64 23) (u1 := .int .i64 5) (u2 := .int .i64 (k : Int)) (by rw [HZ.out]; omega)
                obtain ⟨Wf, hWf⟩ : ∃ Wf, Wf = (((w3.setCell ⟨z + 1, 0, none⟩ (.int .i64 23)).setCell ⟨z + 1, 1, none⟩ (.int .i64 5)).setCell ⟨z + 1, 2, none⟩ (.int .i64 (k : Int))) := ⟨_, rfl⟩
                rw [← hWf] at hfin hBf ⊢
                have y0 := cell_of_block hfin (i := 0)
                have y1 := cell_of_block hfin (i := 1)
                have y2 := cell_of_block hfin (i := 2)
                exact bodyPost_ret (v := .agg #[.int .i64 23, .int .i64 5, .int .i64 (k : Int)]) (by simp [results, Tryz.results60, go_sem, y0, y1, y2]) rfl ⟨by rw [HE.out, HB.out]; rfl, hBf⟩

            · rw [hm2]
              have hbad : firstBad (badM ws ms) ms.length = (23, k) := by
                have := badM_of (cutM_23 (ws := ws) HX.out HN24.out (.inl hm2)) (by decide)
                rw [firstBad_some hlt HOK.out (by rw [this]; decide), this]
              have HB : Hid (firstBad (badM ws ms) ms.length = (23, k)) := hbad
              have HW1 := (hR2.bel.block (z + 1) (by omega)).trans hY1
              have hB1 := hb2.trans (hR2.bel.mono hb2.size)
              have x0 := cell_of_block HW1 (i := 0)
              have x1 := cell_of_block HW1 (i := 1)
              have x2 := cell_of_block HW1 (i := 2)
              have f0 := fun j => unfrozen_of_block HW1 j
              clear hbad hW' hM' hY1
              go_wp2_with fail
              have hfin := wr_set HW1 (u0 := .int .i64 23) (u1 := .int .i64 5) (u2 := .int .i64 (k : Int))
              have hBf := wr_below hB1 (g := z + 1) (u0 := .int .i64 23) (u1 := .int .i64 5) (u2 := .int .i64 (k : Int)) (by rw [HZ.out]; omega)
              obtain ⟨Wf, hWf⟩ : ∃ Wf, Wf = (((w2.setCell ⟨z + 1, 0, none⟩ (.int .i64 23)).setCell ⟨z + 1, 1, none⟩ (.int .i64 5)).setCell ⟨z + 1, 2, none⟩ (.int .i64 (k : Int))) := ⟨_, rfl⟩
              rw [← hWf] at hfin hBf ⊢
              have y0 := cell_of_block hfin (i := 0)
              have y1 := cell_of_block hfin (i := 1)
              have y2 := cell_of_block hfin (i := 2)
              exact bodyPost_ret (v := .agg #[.int .i64 23, .int .i64 5, .int .i64 (k : Int)]) (by simp [results, Tryz.results60, go_sem, y0, y1, y2]) rfl ⟨by rw [HE.out, HB.out]; rfl, hBf⟩
    · have hkn : k = ms.length := by omega
      subst hkn
      have HB : Hid (firstBad (badM ws ms) ms.length = (0, 0)) := firstBad_none HOK.out
      have HW1 := (hbr.block (z + 1) (by omega)).trans hY1
      have hB1 := hb2.trans (hbr.mono hb2.size)
      have e1 := (hD2.below hbr (by omega)).c1
      have x0 := cell_of_block HW1 (i := 0)
      have x1 := cell_of_block HW1 (i := 1)
      have x2 := cell_of_block HW1 (i := 2)
      have f0 := fun j => unfrozen_of_block HW1 j
      clear hW' hM' hY1
      go_wp2_with fail
      have hfin := wr_set HW1 (u0 := .int .i64 0) (u1 := .int .i64 0) (u2 := .int .i64 0)
      have hBf := wr_below hB1 (g := z + 1) (u0 := .int .i64 0) (u1 := .int .i64 0) (u2 := .int .i64 0) (by rw [HZ.out]; omega)
      obtain ⟨Wf, hWf⟩ : ∃ Wf, Wf = (((wr.setCell ⟨z + 1, 0, none⟩ (.int .i64 0)).setCell ⟨z + 1, 1, none⟩ (.int .i64 0)).setCell ⟨z + 1, 2, none⟩ (.int .i64 0)) := ⟨_, rfl⟩
      rw [← hWf] at hfin hBf ⊢
      have y0 := cell_of_block hfin (i := 0)
      have y1 := cell_of_block hfin (i := 1)
      have y2 := cell_of_block hfin (i := 2)
      exact bodyPost_ret (v := .agg #[.int .i64 0, .int .i64 0, .int .i64 0]) (by simp [results, Tryz.results60, go_sem, y0, y1, y2]) rfl ⟨by rw [HE.out, HB.out]; rfl, hBf⟩

end Go.Proofs.YtplmmamebfpcjaaGreatDoor
end
section
/- model.isMade, joined, wrongMerge: their contracts. -/
namespace Go.Proofs.YtplmmamebfpcjaaGreatDoor
open Go.RowKit Go.Sort Go.Joins
set_option linter.unusedVariables false
/-- A row of n bools that f tells. -/
structure MadeAt (w : World) (g n : Nat) (f : Int → Bool) : Prop where
  row : ∃ cur, w.heap[g]? = some (.cells cur 4 (0, 0)) ∧ cur.size = n ∧ ∀ i : Nat, i < n → cur[i]? = some (.bool (f i))
  off : ∀ id : Int, id < 0 ∨ (n : Int) ≤ id → f id = false
theorem MadeAt.lt {w : World} {g n : Nat} {f : Int → Bool} (h : MadeAt w g n f) : g < w.heap.size := by
  obtain ⟨cur, hc, -⟩ := h.row
  exact (Array.getElem?_eq_some_iff.1 hc).1
theorem MadeAt.below {w w' : World} {B g n : Nat} {f : Int → Bool} (h : MadeAt w g n f) (hb : Below B w w') (hg : g < B) : MadeAt w' g n f := by
  obtain ⟨⟨cur, hc, hs, hf⟩, ho⟩ := h
  exact ⟨⟨cur, (hb.block g hg).trans hc, hs, hf⟩, ho⟩
theorem MadeAt.kept {w w' : World} {g n : Nat} {f : Int → Bool} (h : MadeAt w g n f) (hk : w'.heap[g]? = w.heap[g]?) : MadeAt w' g n f := by
  obtain ⟨⟨cur, hc, hs, hf⟩, ho⟩ := h
  exact ⟨⟨cur, hk.trans hc, hs, hf⟩, ho⟩
theorem MadeAt.set {w : World} {g n i : Nat} {f : Int → Bool} (h : MadeAt w g n f) (hi : i < n) : MadeAt (w.setCell ⟨g, i, none⟩ (.bool true)) g n (fun id => id == (i : Int) || f id) := by
  obtain ⟨⟨cur, hc, hs, hf⟩, ho⟩ := h
  refine ⟨⟨_, block_setCell hc _, by simpa using hs, fun j hj => ?_⟩, fun id hid => ?_⟩
  · by_cases e : i = j
    · subst e
      rw [Array.getElem?_setIfInBounds_self_of_lt (by omega)]
      simp
    · rw [Array.getElem?_setIfInBounds_ne e, hf j hj]
      have : ((j : Int) == (i : Int)) = false := by simp; omega
      rw [this]; rfl
  · have : (id == (i : Int)) = false := by simp; omega
    simp only [this, ho id hid]; rfl
theorem MadeAt.congr {w : World} {g n : Nat} {f f' : Int → Bool} (h : MadeAt w g n f) (e : ∀ id, f' id = f id) : MadeAt w g n f' := by
  have : f' = f := funext e
  rw [this]; exact h
set_option maxRecDepth 100000 in
set_option maxHeartbeats 1000000 in
theorem isMade_any (g n : Nat) (f : Int → Bool) (id : Int) (w : World) (hn : n ≤ 4611686018427387904) (h : MadeAt w g n f) :
    Calls Tryz.prog 100 #[.slice (some ⟨g, 0, none⟩) n n, .int .i64 id] w fun e w' => e = .returned (.bool (f id)) ∧ w' = w := by
  by_cases h0 : id < 0
  · rw [h.off id (.inl h0)]
    have hd : decide (0 ≤ id) = false := decide_eq_false (by omega)
    clear h
    go_enter Tryz.func100, Tryz.ntmps100
    go_wp2_with fail
    go_ret
    exact ⟨rfl, rfl⟩
  · have hd : decide (0 ≤ id) = true := decide_eq_true (by omega)
    by_cases h1 : id < n
    · obtain ⟨k, rfl⟩ : ∃ k : Nat, id = k := ⟨id.toNat, by omega⟩
      have hd1 : decide ((k : Int) < (n : Int)) = true := decide_eq_true h1
      obtain ⟨cur, hc, hs, hf⟩ := h.row
      have q0 := cell_of_block hc k
      rw [hf k (by omega)] at q0
      obtain ⟨v, hv⟩ : ∃ v, v = f k := ⟨_, rfl⟩
      rw [← hv] at q0 ⊢
      clear h hc hs hf hv
      go_enter Tryz.func100, Tryz.ntmps100
      go_wp2_with fail
      go_ret
      exact ⟨rfl, rfl⟩
    · rw [h.off id (.inr (by omega))]
      have hd1 : decide (id < (n : Int)) = false := decide_eq_false (by omega)
      clear h
      go_enter Tryz.func100, Tryz.ntmps100
      go_wp2_with fail
      go_ret
      exact ⟨rfl, rfl⟩
set_option maxRecDepth 100000 in
set_option maxHeartbeats 1000000 in
theorem joined_any (g cw : Nat) (aw : Option Addr) (ws : List ByteArray) (l r : Int) (w : World) (hn : ws.length ≤ 4611686018427387904) (hz6 : ∀ (i : Nat) (x : ByteArray), ws[i]? = some x → x.size ≤ 256) (h : w.cell? ⟨g, 0, none⟩ = some (.slice aw ws.length cw)) (hW : WSP w aw ws) :
    Calls Tryz.prog 101 #[.pointer (some ⟨g, 0, none⟩), .int .i64 l, .int .i64 r] w fun e w' => e = .returned (.string (joinM ws l r)) ∧ Below w.heap.size w w' := by
  have hs1 := wordM_size hz6 l
  have hs2 := wordM_size hz6 r
  have H := fun (wx : World) id h hW => word_any g cw aw ws id wx hn h hW
  unfold joinM
  obtain ⟨S1, hS1⟩ : ∃ S, S = (wordM ws l).getD ⟨#[]⟩ := ⟨_, rfl⟩
  obtain ⟨T1, hT1⟩ : ∃ S, S = (wordM ws l).isSome := ⟨_, rfl⟩
  obtain ⟨S2, hS2⟩ : ∃ S, S = (wordM ws r).getD ⟨#[]⟩ := ⟨_, rfl⟩
  obtain ⟨T2, hT2⟩ : ∃ S, S = (wordM ws r).isSome := ⟨_, rfl⟩
  have H1 : ∀ wx, wx.cell? ⟨g, 0, none⟩ = some (.slice aw ws.length cw) → WSP wx aw ws → Calls Tryz.prog 99 #[.pointer (some ⟨g, 0, none⟩), .int .i64 l] wx fun e w' => e = .returned (.tuple #[.string S1, .bool T1]) ∧ Below wx.heap.size wx w' := by
    intro wx h1 h2
    have := H wx l h1 h2
    unfold wdV at this
    rw [← hS1, ← hT1] at this
    exact this
  have H2 : ∀ wx, wx.cell? ⟨g, 0, none⟩ = some (.slice aw ws.length cw) → WSP wx aw ws → Calls Tryz.prog 99 #[.pointer (some ⟨g, 0, none⟩), .int .i64 r] wx fun e w' => e = .returned (.tuple #[.string S2, .bool T2]) ∧ Below wx.heap.size wx w' := by
    intro wx h1 h2
    have := H wx r h1 h2
    unfold wdV at this
    rw [← hS2, ← hT2] at this
    exact this
  rw [← hS1] at hs1 ⊢
  rw [← hS2] at hs2 ⊢
  clear hS1 hS2 hT1 hT2 H
  have hk := World.block_lt_of_cell? w _ h
  go_enter Tryz.func101, Tryz.ntmps101
  go_wp2_with fail
  refine (H1 _ h hW).mono ?_
  rintro e w1 ⟨rfl, hb1⟩
  have h1 := (hb1.cell (p := ⟨g, 0, none⟩) hk).trans h
  have hW1 := hW.below hb1
  clear H1 hW h
  go_wp2_with fail
  refine (H2 _ h1 hW1).mono ?_
  rintro e w2 ⟨rfl, hb2⟩
  clear H2 hW1 h1
  go_wp2_with fail
  go_ret
  exact ⟨rfl, hb1.trans (hb2.mono hb1.size)⟩
set_option maxRecDepth 100000 in
set_option maxHeartbeats 4000000 in
theorem wrongMerge_any (g mg cw k : Nat) (aw : Option Addr) (ws : List ByteArray) (ms : List Mg) (x : Mg) (w : World) (hn : ws.length ≤ 4611686018427387648) (hz6 : ∀ (i : Nat) (x : ByteArray), ws[i]? = some x → x.size ≤ 256) (hx : ms[k]? = some x)
    (h : w.cell? ⟨g, 0, none⟩ = some (.slice aw ws.length cw)) (hW : WSP w aw ws) (hM : MadeAt w mg (256 + ws.length) (madeM ms k)) :
    Calls Tryz.prog 78 #[.pointer (some ⟨g, 0, none⟩), .agg #[.int .i64 x.l, .int .i64 x.r, .int .i64 x.i], .slice (some ⟨mg, 0, none⟩) (256 + ws.length) (256 + ws.length)] w fun e w' => e = .returned (.int .i64 (cutM ws ms k : Nat)) ∧ Below w.heap.size w w' := by
  have hk := World.block_lt_of_cell? w _ h
  have hmk := hM.lt
  have HX : Hid (ms[k]? = some x) := hx
  have HW := fun (wx : World) h hW => word_any g cw aw ws x.i wx (by omega) h hW
  have HI := fun id (wx : World) h => isMade_any mg (256 + ws.length) (madeM ms k) id wx (by omega) h
  have HJ := fun (wx : World) h hW => joined_any g cw aw ws x.l x.r wx (by omega) hz6 h hW
  have hR := RM.start x (Below.refl w.heap.size w)
  have hD := box_below w (.cells #[.int .i64 x.l, .int .i64 x.r, .int .i64 x.i] 75)
  have h1 := (hD.cell (p := ⟨g, 0, none⟩) hk).trans h
  have hW1 := hW.below hD
  have hM1 := hM.below hD hmk
  have m2 := hR.m2
  have HR : Hid (RM w (w.alloc (.cells #[.int .i64 x.l, .int .i64 x.r, .int .i64 x.i] 75)) w.heap.size x) := hR
  have HD := hD
  clear hx h hW hM hR hD hz6
  obtain ⟨E, hE⟩ : ∃ E, E = cutM ws ms k := ⟨_, rfl⟩
  have HE : Hid (E = cutM ws ms k) := hE
  rw [← hE]
  clear hE
  go_enter Tryz.func78, Tryz.ntmps78
  go_wp2_with fail
  refine (HW _ h1 hW1).mono ?_
  rintro e w1 ⟨rfl, hb1⟩
  have hR := HR.out.next hb1
  have h2 := (hb1.cell (p := ⟨g, 0, none⟩) (by simp; omega)).trans h1
  have hW2 := hW1.below hb1
  have hM2 := hM1.below hb1 (by simp; omega)
  have m0 := hR.m0
  have m1 := hR.m1
  have m2 := hR.m2
  have hbl := hR.bel
  obtain ⟨xb, hxb⟩ : ∃ xb, xb = w.heap.size := ⟨_, rfl⟩
  rw [← hxb] at m0 m1 m2 ⊢
  have hmk2 : mg < w1.heap.size := hM2.lt
  have hgk2 : g < w1.heap.size := World.block_lt_of_cell? w1 _ h2
  have HR2 : Hid (RM w w1 xb x) := by rw [hxb]; exact hR
  clear hxb hR HR HD hb1 h1 hW1 hM1 HW
  unfold wdV
  obtain ⟨o, ho⟩ : ∃ o, o = wordM ws x.i := ⟨_, rfl⟩
  rw [← ho]
  have HO : Hid (o = wordM ws x.i) := ho
  clear ho
  cases o with
  | none =>
    have he : cutM ws ms k = 24 := cutM_24 HX.out (by
      have := HO.out
      unfold wordM at this
      by_cases h0 : 0 ≤ x.i ∧ x.i < 256
      · rw [if_pos h0] at this; cases this
      · rw [if_neg h0] at this
        by_cases h1 : 256 ≤ x.i
        · rw [if_pos h1] at this
          have := List.getElem?_eq_none_iff.1 this.symm
          omega
        · omega)
    have HE2 : Hid (E = 24) := HE.out.trans he
    clear he h2 hW2 hM2 m0 m1 m2
    simp only [Option.getD_none, Option.isSome_none]
    go_wp2_with fail
    go_ret
    exact ⟨by rw [HE2.out]; rfl, hbl⟩
  | some X =>
    simp only [Option.getD_some, Option.isSome_some]
    have hin : 0 ≤ x.i ∧ x.i < 256 + ws.length := by
      have := HO.out
      unfold wordM at this
      by_cases h0 : 0 ≤ x.i ∧ x.i < 256
      · omega
      · rw [if_neg h0] at this
        by_cases h1 : 256 ≤ x.i
        · rw [if_pos h1] at this
          have := (List.getElem?_eq_some_iff.1 this.symm).1
          omega
        · rw [if_neg h1] at this; cases this
    obtain ⟨q, hq⟩ : ∃ q : Nat, x.i = q := ⟨x.i.toNat, by omega⟩
    have HQ : Hid (x.i = (q : Int)) := hq
    rw [hq] at m2
    obtain ⟨cur, hc, hs, hf⟩ := hM2.row
    have c0 := cell_of_block hc q
    rw [hf q (by omega)] at c0
    have hql : q < 256 + ws.length := by omega
    obtain ⟨v, hv⟩ : ∃ v, v = madeM ms k (q : Int) := ⟨_, rfl⟩
    rw [← hv] at c0
    have HV : Hid (v = madeM ms k x.i) := by rw [hv, hq]; exact rfl
    clear hv hc hs hf hin hq
    cases v with
    | true =>
      have he : E = 24 := HE.out.trans (cutM_24 HX.out (.inr (.inr HV.out.symm)))
      have HE2 : Hid (E = 24) := he
      clear he h2 hW2 hM2 m0 m1
      go_wp2_with fail
      go_ret
      exact ⟨by rw [HE2.out]; rfl, hbl⟩
    | false =>
      have hno : ¬ (x.i < 256 ∨ (ws.length : Int) ≤ x.i - 256 ∨ madeM ms k x.i = true) := by
        have h1 := HV.out.symm
        rintro (h | h | h)
        · unfold madeM at h1
          have e1 : decide (0 ≤ x.i) = true := decide_eq_true (by rw [HQ.out]; omega)
          rw [e1, decide_eq_true h] at h1
          cases h1
        · have := HQ.out; omega
        · rw [h1] at h; cases h
      have HN : Hid (¬ (x.i < 256 ∨ (ws.length : Int) ≤ x.i - 256 ∨ madeM ms k x.i = true)) := hno
      clear hno
      go_wp2_with fail
      refine (HI _ _ hM2).mono ?_
      rintro e w2 ⟨rfl, he⟩
      obtain rfl := he.symm
      clear c0
      obtain ⟨v1, hv1⟩ : ∃ v, v = madeM ms k x.l := ⟨_, rfl⟩
      rw [← hv1]
      have HV1 : Hid (v1 = madeM ms k x.l) := hv1
      clear hv1
      cases v1 with
      | false =>
        have he : E = 23 := HE.out.trans (cutM_23 HX.out HN.out (.inl HV1.out.symm))
        have HE2 : Hid (E = 23) := he
        clear he h2 hW2 hM2 m0 m1 m2
        go_wp2_with fail
        go_ret
        exact ⟨by rw [HE2.out]; rfl, hbl⟩
      | true =>
        go_wp2_with fail
        refine (HI _ _ hM2).mono ?_
        rintro e w3 ⟨rfl, he⟩
        obtain rfl := he.symm
        obtain ⟨v2, hv2⟩ : ∃ v, v = madeM ms k x.r := ⟨_, rfl⟩
        rw [← hv2]
        have HV2 : Hid (v2 = madeM ms k x.r) := hv2
        clear hv2
        cases v2 with
        | false =>
          have he : E = 23 := HE.out.trans (cutM_23 HX.out HN.out (.inr HV2.out.symm))
          have HE2 : Hid (E = 23) := he
          clear he h2 hW2 hM2 m0 m1 m2
          go_wp2_with fail
          go_ret
          exact ⟨by rw [HE2.out]; rfl, hbl⟩
        | true =>
          have hno2 : ¬ (madeM ms k x.l = false ∨ madeM ms k x.r = false) := by
            rintro (h | h)
            · rw [h] at HV1; exact absurd HV1.out (by decide)
            · rw [h] at HV2; exact absurd HV2.out (by decide)
          have HN2 : Hid (¬ (madeM ms k x.l = false ∨ madeM ms k x.r = false)) := hno2
          clear hno2
          go_wp2_with fail
          refine (HJ _ h2 hW2).mono ?_
          rintro e w4 ⟨rfl, hb4⟩
          have hB4 := hbl.trans (hb4.mono hbl.size)
          clear h2 hW2 hM2 m0 m1 m2
          obtain ⟨J, hJ⟩ : ∃ J, J = joinM ws x.l x.r := ⟨_, rfl⟩
          rw [← hJ]
          have HJ2 : Hid (J = joinM ws x.l x.r) := hJ
          have hq : (X.toList == J.toList) = decide (X = J) := strEq_dec X J
          obtain ⟨u, hu⟩ : ∃ u, u = decide (X = J) := ⟨_, rfl⟩
          rw [← hu] at hq
          have HU : Hid (u = decide (X = J)) := hu
          clear hu hJ
          cases u with
          | false =>
            have he : E = 25 := HE.out.trans (cutM_25 HX.out HN.out HN2.out (by rw [← HO.out, ← HJ2.out]; intro e; exact of_decide_eq_false HU.out.symm (Option.some.inj e)))
            have HE2 : Hid (E = 25) := he
            clear he
            go_wp2_with fail
            go_ret
            exact ⟨by rw [HE2.out]; rfl, hB4⟩
          | true =>
            have he : E = 0 := HE.out.trans (cutM_ok HX.out HN.out HN2.out (by rw [← HO.out, ← HJ2.out, of_decide_eq_true HU.out.symm]))
            have HE2 : Hid (E = 0) := he
            clear he
            go_wp2_with fail
            go_ret
            exact ⟨by rw [HE2.out]; rfl, hB4⟩
end Go.Proofs.YtplmmamebfpcjaaGreatDoor
end
