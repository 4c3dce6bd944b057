/- tesserakeep.Handed, Frame.Intact: their contracts; ModelRight: the walk. -/
import Derived.Test.YtlnebbciefdpoaaDoorMKnown
import Derived.BigQuiet
import Derived.Test.YtlnebbciefdpoaaDoorRMono
namespace Go.Proofs.YtlnebbciefdpoaaDoor
open Go.RowKit Go.Sort Go.Joins
set_option linter.unusedVariables false
def behind : ByteArray := ⟨#[98, 101, 104, 105, 110, 100]⟩
theorem set_other {w : World} {b o k : Nat} (h : k ≠ b) (v : Value) : (w.setCell ⟨b, o, none⟩ v).heap[k]? = w.heap[k]? := Below.heap_setCell _ _ _ k (fun e => h e)
theorem Blk.set {w : World} {g : Nat} {cs : Array Value} {t : TypeId} (h : Blk w g (.cells cs t (0, 0))) (i : Nat) (v : Value) : Blk (w.setCell ⟨g, i, none⟩ v) g (.cells (cs.setIfInBounds i v) t (0, 0)) := block_setCell h v
theorem Blk.other {w : World} {g b o : Nat} {x : Obj} (h : Blk w g x) (hb : g ≠ b) (v : Value) : Blk (w.setCell ⟨b, o, none⟩ v) g x := (set_other hb v).trans h
theorem OwnPw.other {w : World} {g b o : Nat} {x : List Value} (h : OwnPw w g x) (hb : g ≠ b) (v : Value) : OwnPw (w.setCell ⟨b, o, none⟩ v) g x := (set_other hb v).trans h
theorem OwnPm.other {w : World} {g b o : Nat} {x : List Value} (h : OwnPm w g x) (hb : g ≠ b) (v : Value) : OwnPm (w.setCell ⟨b, o, none⟩ v) g x := (set_other hb v).trans h
theorem OwnP.other {w : World} {g b o : Nat} {x : List Value} (h : OwnP w g x) (hb : g ≠ b) (v : Value) : OwnP (w.setCell ⟨b, o, none⟩ v) g x := (set_other hb v).trans h
/-- What Handed leaves. -/
def HandedP (aw am a b c : Option Addr) (cw cm ca cb cc : Nat) (ws : List ByteArray) (ms : List Mg) (A B C : List Sp) (w : World) (e : Ending) (w' : World) : Prop :=
  ∃ g0 g1 g2 g3 g4 gf, e = .returned (.tuple #[.agg #[.slice (some ⟨g0, 0, none⟩) ws.length (ws.length + 80), .slice (some ⟨g1, 0, none⟩) ms.length (ms.length + 80), .slice (some ⟨g2, 0, none⟩) A.length (A.length + 80), .slice (some ⟨g3, 0, none⟩) B.length (B.length + 80), .slice (some ⟨g4, 0, none⟩) C.length (C.length + 80)], .pointer (some ⟨gf, 0, none⟩)]) ∧ OwnPw w' g0 (cellsW (fillW ws behind 80)) ∧ OwnPm w' g1 (cellsM (fillM ms ⟨-7, 0, 0⟩ 80)) ∧ OwnP w' g2 (cellsS (fillS A ⟨-7, 0⟩ 80)) ∧ OwnP w' g3 (cellsS (fillS B ⟨-7, 0⟩ 80)) ∧ OwnP w' g4 (cellsS (fillS C ⟨-7, 0⟩ 80)) ∧ Blk w' gf (.cells #[.slice aw ws.length cw, .slice am ms.length cm, .slice a A.length ca, .slice b B.length cb, .slice c C.length cc, .slice (some ⟨g0, 0, none⟩) (ws.length + 80) (ws.length + 80), .slice (some ⟨g1, 0, none⟩) (ms.length + 80) (ms.length + 80), .slice (some ⟨g2, 0, none⟩) (A.length + 80) (A.length + 80), .slice (some ⟨g3, 0, none⟩) (B.length + 80) (B.length + 80), .slice (some ⟨g4, 0, none⟩) (C.length + 80) (C.length + 80)] 87 (0, 0)) ∧ Below w.heap.size w w'
set_option maxRecDepth 100000 in
set_option maxHeartbeats 4000000 in
theorem handed_any (aw am a b c : Option Addr) (cw cm ca cb cc : Nat) (ws : List ByteArray) (ms : List Mg) (A B C : List Sp) (w : World) (hn : ws.length ≤ 8796093022208 ∧ ms.length ≤ 5864062014805 ∧ A.length ≤ 17592186044416 ∧ B.length ≤ 17592186044416 ∧ C.length ≤ 17592186044416) (hW : WSP w aw ws) (hM : MSP w am ms) (hA : SPS w a A) (hB : SPS w b B) (hC : SPS w c C) :
    Calls Tryd.prog 15 #[.agg #[.slice aw ws.length cw, .slice am ms.length cm, .slice a A.length ca, .slice b B.length cb, .slice c C.length cc]] w fun e w' => HandedP aw am a b c cw cm ca cb cc ws ms A B C w e w' := by
  have hD := DBox.new w (.slice aw ws.length cw) (.slice am ms.length cm) (.slice a A.length ca) (.slice b B.length cb) (.slice c C.length cc)
  have b1 := box_below w (.cells #[.slice aw ws.length cw, .slice am ms.length cm, .slice a A.length ca, .slice b B.length cb, .slice c C.length cc] 42)
  have b2 := box_below (w.alloc (.cells #[.slice aw ws.length cw, .slice am ms.length cm, .slice a A.length ca, .slice b B.length cb, .slice c C.length cc] 42)) (.cells #[.slice none 0 0, .slice none 0 0, .slice none 0 0, .slice none 0 0, .slice none 0 0] 42)
  have b3 := box_below ((w.alloc (.cells #[.slice aw ws.length cw, .slice am ms.length cm, .slice a A.length ca, .slice b B.length cb, .slice c C.length cc] 42)).alloc (.cells #[.slice none 0 0, .slice none 0 0, .slice none 0 0, .slice none 0 0, .slice none 0 0] 42)) (.cells #[.slice aw ws.length cw, .slice am ms.length cm, .slice a A.length ca, .slice b B.length cb, .slice c C.length cc, .slice none 0 0, .slice none 0 0, .slice none 0 0, .slice none 0 0, .slice none 0 0] 87)
  have hR := Blk.new (w.alloc (.cells #[.slice aw ws.length cw, .slice am ms.length cm, .slice a A.length ca, .slice b B.length cb, .slice c C.length cc] 42)) (.cells #[.slice none 0 0, .slice none 0 0, .slice none 0 0, .slice none 0 0, .slice none 0 0] 42)
  have hF := Blk.new ((w.alloc (.cells #[.slice aw ws.length cw, .slice am ms.length cm, .slice a A.length ca, .slice b B.length cb, .slice c C.length cc] 42)).alloc (.cells #[.slice none 0 0, .slice none 0 0, .slice none 0 0, .slice none 0 0, .slice none 0 0] 42)) (.cells #[.slice aw ws.length cw, .slice am ms.length cm, .slice a A.length ca, .slice b B.length cb, .slice c C.length cc, .slice none 0 0, .slice none 0 0, .slice none 0 0, .slice none 0 0, .slice none 0 0] 87)
  have e1 : (w.alloc (.cells #[.slice aw ws.length cw, .slice am ms.length cm, .slice a A.length ca, .slice b B.length cb, .slice c C.length cc] 42)).heap.size = w.heap.size + 1 := by simp
  have e2 : ((w.alloc (.cells #[.slice aw ws.length cw, .slice am ms.length cm, .slice a A.length ca, .slice b B.length cb, .slice c C.length cc] 42)).alloc (.cells #[.slice none 0 0, .slice none 0 0, .slice none 0 0, .slice none 0 0, .slice none 0 0] 42)).heap.size = w.heap.size + 1 + 1 := by simp
  have hD3 := (hD.below b2 hD.lt).below b3 (by rw [e2]; omega)
  have hR3 := hR.below b3 (by rw [e1, e2]; omega)
  have B3 := (b1.trans (b2.mono b1.size)).trans (b3.mono (by rw [e2]; omega))
  have e3 : (((w.alloc (.cells #[.slice aw ws.length cw, .slice am ms.length cm, .slice a A.length ca, .slice b B.length cb, .slice c C.length cc] 42)).alloc (.cells #[.slice none 0 0, .slice none 0 0, .slice none 0 0, .slice none 0 0, .slice none 0 0] 42)).alloc (.cells #[.slice aw ws.length cw, .slice am ms.length cm, .slice a A.length ca, .slice b B.length cb, .slice c C.length cc, .slice none 0 0, .slice none 0 0, .slice none 0 0, .slice none 0 0, .slice none 0 0] 87)).heap.size = w.heap.size + 1 + 1 + 1 := by simp
  rw [e1] at hR3
  rw [e2] at hF
  have x0 := hD3.c0
  have x1 := hD3.c1
  have x2 := hD3.c2
  have x3 := hD3.c3
  have x4 := hD3.c4
  have H0 := fun wx (hb : Below w.heap.size w wx) => roomyW_any aw cw ws behind wx hn.1 (hW.below hb)
  have H1 := fun wx (hb : Below w.heap.size w wx) => roomyM_any am cm ms ⟨-7, 0, 0⟩ wx hn.2.1 (hM.below hb)
  have H2 := fun wx (hb : Below w.heap.size w wx) => roomy_any a ca A ⟨-7, 0⟩ wx hn.2.2.1 (hA.below hb)
  have H3 := fun wx (hb : Below w.heap.size w wx) => roomy_any b cb B ⟨-7, 0⟩ wx hn.2.2.2.1 (hB.below hb)
  have H4 := fun wx (hb : Below w.heap.size w wx) => roomy_any c cc C ⟨-7, 0⟩ wx hn.2.2.2.2 (hC.below hb)
  unfold mgV at H1
  unfold spv at H2 H3 H4
  rw [show behind = ⟨#[98, 101, 104, 105, 110, 100]⟩ from rfl] at H0
  simp only [] at H1 H2 H3 H4
  clear hD b1 b2 b3 hR e1 e2 hW hM hA hB hC
  go_enter Tryd.func15, Tryd.ntmps15
  go_wp2_with fail
  obtain ⟨U0, hU0⟩ : ∃ U0, U0 = ((w.alloc (.cells #[.slice aw ws.length cw, .slice am ms.length cm, .slice a A.length ca, .slice b B.length cb, .slice c C.length cc] 42)).alloc (.cells #[.slice none 0 0, .slice none 0 0, .slice none 0 0, .slice none 0 0, .slice none 0 0] 42)).alloc (.cells #[.slice aw ws.length cw, .slice am ms.length cm, .slice a A.length ca, .slice b B.length cb, .slice c C.length cc, .slice none 0 0, .slice none 0 0, .slice none 0 0, .slice none 0 0, .slice none 0 0] 87) := ⟨_, rfl⟩
  rw [← hU0] at hD3 hR3 hF B3 e3 ⊢
  clear hU0 x0 x1 x2 x3 x4
  obtain ⟨z, hz⟩ : ∃ z, z = w.heap.size := ⟨_, rfl⟩
  have HZ : Hid (z = w.heap.size) := hz
  rw [← hz] at hD3 hR3 hF e3 ⊢
  clear hz
  have hs0 : z + 1 + 1 + 1 ≤ U0.heap.size := by omega
  have hD0 : DBox U0 z _ _ _ _ _ := hD3
  have hR0 : Blk U0 (z + 1) _ := hR3
  have hF0 : Blk U0 (z + 1 + 1) _ := hF
  have hB0 := B3
  clear hD3 hR3 hF B3 e3
  refine (H0 U0 hB0).mono ?_
  rintro e v0 ⟨g0, hg0, rfl, hb, ro⟩
  have hDv := hD0.below hb hD0.lt
  have hRv := hR0.up hb
  have hFv := hF0.up hb
  have hBv := hB0.trans (hb.mono hB0.size)
  have hsv := hb.size
  have f0 := hFv.cell 5
  have f1 := hFv.free 5
  have x0 := hDv.c1
  have hD1 := hDv.other (g := z + 1 + 1) (o := 5) (by omega) (.slice (some ⟨g0, 0, none⟩) (ws.length + 80) (ws.length + 80))
  have hR1 := hRv.other (b := z + 1 + 1) (o := 5) (by omega) (.slice (some ⟨g0, 0, none⟩) (ws.length + 80) (ws.length + 80))
  have hF1 := hFv.set 5 (.slice (some ⟨g0, 0, none⟩) (ws.length + 80) (ws.length + 80))
  have hB1 := hBv.setCell (p := ⟨z + 1 + 1, 5, none⟩) (show w.heap.size ≤ z + 1 + 1 by rw [HZ.out]; omega) (.slice (some ⟨g0, 0, none⟩) (ws.length + 80) (ws.length + 80))
  have r01 := ro.other (b := z + 1 + 1) (o := 5) (by omega) (.slice (some ⟨g0, 0, none⟩) (ws.length + 80) (ws.length + 80))
  have hs1 : z + 1 + 1 + 1 ≤ (v0.setCell ⟨z + 1 + 1, 5, none⟩ (.slice (some ⟨g0, 0, none⟩) (ws.length + 80) (ws.length + 80))).heap.size := by simp; omega
  have hgl0 : z + 1 + 1 < g0 := by omega
  clear H0 hDv hRv hFv hBv ro hD0 hR0 hF0 hB0  hs0 hsv hg0 hb
  have x0 := hD1.c1
  go_wp2_with fail
  obtain ⟨U1, hV⟩ : ∃ U1, U1 = v0.setCell ⟨z + 1 + 1, 5, none⟩ (.slice (some ⟨g0, 0, none⟩) (ws.length + 80) (ws.length + 80)) := ⟨_, rfl⟩
  rw [← hV] at hD1 hR1 hF1 hB1 hs1 r01 ⊢
  clear hV f0 f1 x0
  refine (H1 U1 hB1).mono ?_
  rintro e v1 ⟨g1, hg1, rfl, hb, ro⟩
  have hDv := hD1.below hb hD1.lt
  have hRv := hR1.up hb
  have hFv := hF1.up hb
  have hBv := hB1.trans (hb.mono hB1.size)
  have hsv := hb.size
  have p0 := r01.below hb r01.lt
  have f0 := hFv.cell 6
  have f1 := hFv.free 6
  have x0 := hDv.c2
  have hD2 := hDv.other (g := z + 1 + 1) (o := 6) (by omega) (.slice (some ⟨g1, 0, none⟩) (ms.length + 80) (ms.length + 80))
  have hR2 := hRv.other (b := z + 1 + 1) (o := 6) (by omega) (.slice (some ⟨g1, 0, none⟩) (ms.length + 80) (ms.length + 80))
  have hF2 := hFv.set 6 (.slice (some ⟨g1, 0, none⟩) (ms.length + 80) (ms.length + 80))
  have hB2 := hBv.setCell (p := ⟨z + 1 + 1, 6, none⟩) (show w.heap.size ≤ z + 1 + 1 by rw [HZ.out]; omega) (.slice (some ⟨g1, 0, none⟩) (ms.length + 80) (ms.length + 80))
  have r12 := ro.other (b := z + 1 + 1) (o := 6) (by omega) (.slice (some ⟨g1, 0, none⟩) (ms.length + 80) (ms.length + 80))
  have r02 := p0.other (b := z + 1 + 1) (o := 6) (by omega) (.slice (some ⟨g1, 0, none⟩) (ms.length + 80) (ms.length + 80))
  have hs2 : z + 1 + 1 + 1 ≤ (v1.setCell ⟨z + 1 + 1, 6, none⟩ (.slice (some ⟨g1, 0, none⟩) (ms.length + 80) (ms.length + 80))).heap.size := by simp; omega
  have hgl1 : z + 1 + 1 < g1 := by omega
  clear H1 hDv hRv hFv hBv ro hD1 hR1 hF1 hB1 p0 r01 hs1 hsv hg1 hb
  have x0 := hD2.c2
  go_wp2_with fail
  obtain ⟨U2, hV⟩ : ∃ U2, U2 = v1.setCell ⟨z + 1 + 1, 6, none⟩ (.slice (some ⟨g1, 0, none⟩) (ms.length + 80) (ms.length + 80)) := ⟨_, rfl⟩
  rw [← hV] at hD2 hR2 hF2 hB2 hs2 r02 r12 ⊢
  clear hV f0 f1 x0
  refine (H2 U2 hB2).mono ?_
  rintro e v2 ⟨g2, hg2, rfl, hb, ro⟩
  have hDv := hD2.below hb hD2.lt
  have hRv := hR2.up hb
  have hFv := hF2.up hb
  have hBv := hB2.trans (hb.mono hB2.size)
  have hsv := hb.size
  have p0 := r02.below hb r02.lt
  have p1 := r12.below hb r12.lt
  have f0 := hFv.cell 7
  have f1 := hFv.free 7
  have x0 := hDv.c3
  have hD3 := hDv.other (g := z + 1 + 1) (o := 7) (by omega) (.slice (some ⟨g2, 0, none⟩) (A.length + 80) (A.length + 80))
  have hR3 := hRv.other (b := z + 1 + 1) (o := 7) (by omega) (.slice (some ⟨g2, 0, none⟩) (A.length + 80) (A.length + 80))
  have hF3 := hFv.set 7 (.slice (some ⟨g2, 0, none⟩) (A.length + 80) (A.length + 80))
  have hB3 := hBv.setCell (p := ⟨z + 1 + 1, 7, none⟩) (show w.heap.size ≤ z + 1 + 1 by rw [HZ.out]; omega) (.slice (some ⟨g2, 0, none⟩) (A.length + 80) (A.length + 80))
  have r23 := ro.other (b := z + 1 + 1) (o := 7) (by omega) (.slice (some ⟨g2, 0, none⟩) (A.length + 80) (A.length + 80))
  have r03 := p0.other (b := z + 1 + 1) (o := 7) (by omega) (.slice (some ⟨g2, 0, none⟩) (A.length + 80) (A.length + 80))
  have r13 := p1.other (b := z + 1 + 1) (o := 7) (by omega) (.slice (some ⟨g2, 0, none⟩) (A.length + 80) (A.length + 80))
  have hs3 : z + 1 + 1 + 1 ≤ (v2.setCell ⟨z + 1 + 1, 7, none⟩ (.slice (some ⟨g2, 0, none⟩) (A.length + 80) (A.length + 80))).heap.size := by simp; omega
  have hgl2 : z + 1 + 1 < g2 := by omega
  clear H2 hDv hRv hFv hBv ro hD2 hR2 hF2 hB2 p0 r02 p1 r12 hs2 hsv hg2 hb
  have x0 := hD3.c3
  go_wp2_with fail
  obtain ⟨U3, hV⟩ : ∃ U3, U3 = v2.setCell ⟨z + 1 + 1, 7, none⟩ (.slice (some ⟨g2, 0, none⟩) (A.length + 80) (A.length + 80)) := ⟨_, rfl⟩
  rw [← hV] at hD3 hR3 hF3 hB3 hs3 r03 r13 r23 ⊢
  clear hV f0 f1 x0
  refine (H3 U3 hB3).mono ?_
  rintro e v3 ⟨g3, hg3, rfl, hb, ro⟩
  have hDv := hD3.below hb hD3.lt
  have hRv := hR3.up hb
  have hFv := hF3.up hb
  have hBv := hB3.trans (hb.mono hB3.size)
  have hsv := hb.size
  have p0 := r03.below hb r03.lt
  have p1 := r13.below hb r13.lt
  have p2 := r23.below hb r23.lt
  have f0 := hFv.cell 8
  have f1 := hFv.free 8
  have x0 := hDv.c4
  have hD4 := hDv.other (g := z + 1 + 1) (o := 8) (by omega) (.slice (some ⟨g3, 0, none⟩) (B.length + 80) (B.length + 80))
  have hR4 := hRv.other (b := z + 1 + 1) (o := 8) (by omega) (.slice (some ⟨g3, 0, none⟩) (B.length + 80) (B.length + 80))
  have hF4 := hFv.set 8 (.slice (some ⟨g3, 0, none⟩) (B.length + 80) (B.length + 80))
  have hB4 := hBv.setCell (p := ⟨z + 1 + 1, 8, none⟩) (show w.heap.size ≤ z + 1 + 1 by rw [HZ.out]; omega) (.slice (some ⟨g3, 0, none⟩) (B.length + 80) (B.length + 80))
  have r34 := ro.other (b := z + 1 + 1) (o := 8) (by omega) (.slice (some ⟨g3, 0, none⟩) (B.length + 80) (B.length + 80))
  have r04 := p0.other (b := z + 1 + 1) (o := 8) (by omega) (.slice (some ⟨g3, 0, none⟩) (B.length + 80) (B.length + 80))
  have r14 := p1.other (b := z + 1 + 1) (o := 8) (by omega) (.slice (some ⟨g3, 0, none⟩) (B.length + 80) (B.length + 80))
  have r24 := p2.other (b := z + 1 + 1) (o := 8) (by omega) (.slice (some ⟨g3, 0, none⟩) (B.length + 80) (B.length + 80))
  have hs4 : z + 1 + 1 + 1 ≤ (v3.setCell ⟨z + 1 + 1, 8, none⟩ (.slice (some ⟨g3, 0, none⟩) (B.length + 80) (B.length + 80))).heap.size := by simp; omega
  have hgl3 : z + 1 + 1 < g3 := by omega
  clear H3 hDv hRv hFv hBv ro hD3 hR3 hF3 hB3 p0 r03 p1 r13 p2 r23 hs3 hsv hg3 hb
  have x0 := hD4.c4
  go_wp2_with fail
  obtain ⟨U4, hV⟩ : ∃ U4, U4 = v3.setCell ⟨z + 1 + 1, 8, none⟩ (.slice (some ⟨g3, 0, none⟩) (B.length + 80) (B.length + 80)) := ⟨_, rfl⟩
  rw [← hV] at hD4 hR4 hF4 hB4 hs4 r04 r14 r24 r34 ⊢
  clear hV f0 f1 x0
  refine (H4 U4 hB4).mono ?_
  rintro e v4 ⟨g4, hg4, rfl, hb, ro⟩
  have hDv := hD4.below hb hD4.lt
  have hRv := hR4.up hb
  have hFv := hF4.up hb
  have hBv := hB4.trans (hb.mono hB4.size)
  have hsv := hb.size
  have p0 := r04.below hb r04.lt
  have p1 := r14.below hb r14.lt
  have p2 := r24.below hb r24.lt
  have p3 := r34.below hb r34.lt
  have f0 := hFv.cell 9
  have f1 := hFv.free 9
  have hD5 := hDv.other (g := z + 1 + 1) (o := 9) (by omega) (.slice (some ⟨g4, 0, none⟩) (C.length + 80) (C.length + 80))
  have hR5 := hRv.other (b := z + 1 + 1) (o := 9) (by omega) (.slice (some ⟨g4, 0, none⟩) (C.length + 80) (C.length + 80))
  have hF5 := hFv.set 9 (.slice (some ⟨g4, 0, none⟩) (C.length + 80) (C.length + 80))
  have hB5 := hBv.setCell (p := ⟨z + 1 + 1, 9, none⟩) (show w.heap.size ≤ z + 1 + 1 by rw [HZ.out]; omega) (.slice (some ⟨g4, 0, none⟩) (C.length + 80) (C.length + 80))
  have r45 := ro.other (b := z + 1 + 1) (o := 9) (by omega) (.slice (some ⟨g4, 0, none⟩) (C.length + 80) (C.length + 80))
  have r05 := p0.other (b := z + 1 + 1) (o := 9) (by omega) (.slice (some ⟨g4, 0, none⟩) (C.length + 80) (C.length + 80))
  have r15 := p1.other (b := z + 1 + 1) (o := 9) (by omega) (.slice (some ⟨g4, 0, none⟩) (C.length + 80) (C.length + 80))
  have r25 := p2.other (b := z + 1 + 1) (o := 9) (by omega) (.slice (some ⟨g4, 0, none⟩) (C.length + 80) (C.length + 80))
  have r35 := p3.other (b := z + 1 + 1) (o := 9) (by omega) (.slice (some ⟨g4, 0, none⟩) (C.length + 80) (C.length + 80))
  have hs5 : z + 1 + 1 + 1 ≤ (v4.setCell ⟨z + 1 + 1, 9, none⟩ (.slice (some ⟨g4, 0, none⟩) (C.length + 80) (C.length + 80))).heap.size := by simp; omega
  have hgl4 : z + 1 + 1 < g4 := by omega
  clear H4 hDv hRv hFv hBv ro hD4 hR4 hF4 hB4 p0 r04 p1 r14 p2 r24 p3 r34 hs4 hsv hg4 hb
  go_wp2_with fail
  obtain ⟨U5, hV⟩ : ∃ U5, U5 = v4.setCell ⟨z + 1 + 1, 9, none⟩ (.slice (some ⟨g4, 0, none⟩) (C.length + 80) (C.length + 80)) := ⟨_, rfl⟩
  rw [← hV] at hD5 hR5 hF5 hB5 hs5 r05 r15 r25 r35 r45 ⊢
  clear hV f0 f1
  have x0 := hD5.c0
  have x1 := hD5.c1
  have x2 := hD5.c2
  have x3 := hD5.c3
  have x4 := hD5.c4
  have f0 := hF5.cell 5
  have f1 := hF5.cell 6
  have f2 := hF5.cell 7
  have f3 := hF5.cell 8
  have f4 := hF5.cell 9
  clear x0 x1 x2 x3 x4 f0 f1 f2 f3 f4
  refine wp_region_mono_move 41 [42, 43, 44, 45, 46, 47, 48, 49, 50, 51, 52, 53, 54, 55, 56, 57, 58, 59, 60, 61, 62, 63, 64, 65, 66, 67, 68, 69, 70, 71, 72, 73, 74, 75, 76, 77, 78, 79, 80, 81, 82] [qR (.pointer (some ⟨z + 1 + 1, 0, none⟩)),
      qR (.pointer (some ⟨z + 1 + 1, 0, none⟩)),
      qR (.pointer (some ⟨z + 1 + 1, 5, none⟩)),
      qR (.slice (some ⟨g0, 0, none⟩) (ws.length + 80) (ws.length + 80)),
      qR (.pointer (some ⟨z, 0, none⟩)),
      qR (.slice aw ws.length cw),
      qR (.int .i64 (ws.length : Nat)),
      qR (.slice (some ⟨g0, 0, none⟩) ws.length (ws.length + 80)),
      qR (.pointer (some ⟨z + 1 + 1, 0, none⟩)),
      qR (.pointer (some ⟨z + 1 + 1, 0, none⟩)),
      qR (.pointer (some ⟨z + 1 + 1, 6, none⟩)),
      qR (.slice (some ⟨g1, 0, none⟩) (ms.length + 80) (ms.length + 80)),
      qR (.pointer (some ⟨z, 1, none⟩)),
      qR (.slice am ms.length cm),
      qR (.int .i64 (ms.length : Nat)),
      qR (.slice (some ⟨g1, 0, none⟩) ms.length (ms.length + 80)),
      qR (.pointer (some ⟨z + 1 + 1, 0, none⟩)),
      qR (.pointer (some ⟨z + 1 + 1, 0, none⟩)),
      qR (.pointer (some ⟨z + 1 + 1, 7, none⟩)),
      qR (.slice (some ⟨g2, 0, none⟩) (A.length + 80) (A.length + 80)),
      qR (.pointer (some ⟨z, 2, none⟩)),
      qR (.slice a A.length ca),
      qR (.int .i64 (A.length : Nat)),
      qR (.slice (some ⟨g2, 0, none⟩) A.length (A.length + 80)),
      qR (.pointer (some ⟨z + 1 + 1, 0, none⟩)),
      qR (.pointer (some ⟨z + 1 + 1, 0, none⟩)),
      qR (.pointer (some ⟨z + 1 + 1, 8, none⟩)),
      qR (.slice (some ⟨g3, 0, none⟩) (B.length + 80) (B.length + 80)),
      qR (.pointer (some ⟨z, 3, none⟩)),
      qR (.slice b B.length cb),
      qR (.int .i64 (B.length : Nat)),
      qR (.slice (some ⟨g3, 0, none⟩) B.length (B.length + 80)),
      qR (.pointer (some ⟨z + 1 + 1, 0, none⟩)),
      qR (.pointer (some ⟨z + 1 + 1, 0, none⟩)),
      qR (.pointer (some ⟨z + 1 + 1, 9, none⟩)),
      qR (.slice (some ⟨g4, 0, none⟩) (C.length + 80) (C.length + 80)),
      qR (.pointer (some ⟨z, 4, none⟩)),
      qR (.slice c C.length cc),
      qR (.int .i64 (C.length : Nat)),
      qR (.slice (some ⟨g4, 0, none⟩) C.length (C.length + 80)),
      qR (.agg #[.slice (some ⟨g0, 0, none⟩) ws.length (ws.length + 80), .slice (some ⟨g1, 0, none⟩) ms.length (ms.length + 80), .slice (some ⟨g2, 0, none⟩) A.length (A.length + 80), .slice (some ⟨g3, 0, none⟩) B.length (B.length + 80), .slice (some ⟨g4, 0, none⟩) C.length (C.length + 80)])] rfl rfl rfl (by kernel_rfl) (by kernel_rfl) rfl (by kernel_rfl) (by kernel_rfl) (by kernel_rfl) (fun _ _ _ _ h => h) rfl ?stab ?steps ?fin
  case stab =>
    intro φ hφ
    simp only [List.mem_cons, List.not_mem_nil, or_false] at hφ
    rcases hφ with rfl | rfl | rfl | rfl | rfl | rfl | rfl | rfl | rfl | rfl | rfl | rfl | rfl | rfl | rfl | rfl | rfl | rfl | rfl | rfl | rfl | rfl | rfl | rfl | rfl | rfl | rfl | rfl | rfl | rfl | rfl | rfl | rfl | rfl | rfl | rfl | rfl | rfl | rfl | rfl | rfl
    · exact fun _ _ _ _ h => h
    · exact fun _ _ _ _ h => h
    · exact fun _ _ _ _ h => h
    · exact fun _ _ _ _ h => h
    · exact fun _ _ _ _ h => h
    · exact fun _ _ _ _ h => h
    · exact fun _ _ _ _ h => h
    · exact fun _ _ _ _ h => h
    · exact fun _ _ _ _ h => h
    · exact fun _ _ _ _ h => h
    · exact fun _ _ _ _ h => h
    · exact fun _ _ _ _ h => h
    · exact fun _ _ _ _ h => h
    · exact fun _ _ _ _ h => h
    · exact fun _ _ _ _ h => h
    · exact fun _ _ _ _ h => h
    · exact fun _ _ _ _ h => h
    · exact fun _ _ _ _ h => h
    · exact fun _ _ _ _ h => h
    · exact fun _ _ _ _ h => h
    · exact fun _ _ _ _ h => h
    · exact fun _ _ _ _ h => h
    · exact fun _ _ _ _ h => h
    · exact fun _ _ _ _ h => h
    · exact fun _ _ _ _ h => h
    · exact fun _ _ _ _ h => h
    · exact fun _ _ _ _ h => h
    · exact fun _ _ _ _ h => h
    · exact fun _ _ _ _ h => h
    · exact fun _ _ _ _ h => h
    · exact fun _ _ _ _ h => h
    · exact fun _ _ _ _ h => h
    · exact fun _ _ _ _ h => h
    · exact fun _ _ _ _ h => h
    · exact fun _ _ _ _ h => h
    · exact fun _ _ _ _ h => h
    · exact fun _ _ _ _ h => h
    · exact fun _ _ _ _ h => h
    · exact fun _ _ _ _ h => h
    · exact fun _ _ _ _ h => h
    · exact fun _ _ _ _ h => h
  case steps =>
    have hBx : ∀ wx, Below U5.drew.heap.size U5.drew wx → Below U5.heap.size U5 wx := fun wx hb => ⟨hb.os, hb.tape, hb.output, hb.size, hb.block⟩
    refine ⟨?_, ?_, ?_, ?_, ?_, ?_, ?_, ?_, ?_, ?_, ?_, ?_, ?_, ?_, ?_, ?_, ?_, ?_, ?_, ?_, ?_, ?_, ?_, ?_, ?_, ?_, ?_, ?_, ?_, ?_, ?_, ?_, ?_, ?_, ?_, ?_, ?_, ?_, ?_, ?_, ?_, trivial⟩
    · intro a' he wx hb hd
      have e0 : a'.eval (.tmp 4) = .pointer (some ⟨z + 1 + 1, 0, none⟩) := he.get rfl
      exact mStep_read rfl (by simp [execOp, e0]) rfl
    · intro a' he wx hb hd
      have e0 : a'.eval (.tmp 42) = .pointer (some ⟨z + 1 + 1, 0, none⟩) := hd 0 rfl _ _ rfl rfl
      refine mStep_read rfl ?_ rfl
      simp only [execOp, e0]
      go_simp
    · intro a' he wx hb hd
      have e0 : a'.eval (.tmp 43) = .pointer (some ⟨z + 1 + 1, 0, none⟩) := hd 1 rfl _ _ rfl rfl
      refine mStep_read rfl ?_ rfl
      simp only [execOp, e0]
      go_simp
    · intro a' he wx hb hd
      have e0 : a'.eval (.tmp 44) = .pointer (some ⟨z + 1 + 1, 5, none⟩) := hd 2 rfl _ _ rfl rfl
      have c := (hF5.up (hBx wx hb)).cell 5
      refine mStep_read rfl ?_ rfl
      simp only [execOp, e0]
      go_simp
    · intro a' he wx hb hd
      have e0 : a'.eval (.tmp 1) = .pointer (some ⟨z, 0, none⟩) := he.get rfl
      refine mStep_read rfl ?_ rfl
      simp only [execOp, e0]
      go_simp
    · intro a' he wx hb hd
      have e0 : a'.eval (.tmp 46) = .pointer (some ⟨z, 0, none⟩) := hd 4 rfl _ _ rfl rfl
      have c := (hD5.below (hBx wx hb) hD5.lt).c0
      refine mStep_read rfl ?_ rfl
      simp only [execOp, e0]
      go_simp
    · intro a' he wx hb hd
      have e0 : a'.eval (.tmp 47) = .slice aw ws.length cw := hd 5 rfl _ _ rfl rfl
      refine mStep_read rfl ?_ rfl
      simp [execOp, e0, resolve]
      go_simp
    · intro a' he wx hb hd
      have e0 : a'.eval (.tmp 45) = .slice (some ⟨g0, 0, none⟩) (ws.length + 80) (ws.length + 80) := hd 3 rfl _ _ rfl rfl
      have e1 : a'.eval (.tmp 48) = .int .i64 (ws.length : Nat) := hd 6 rfl _ _ rfl rfl
      refine mStep_read rfl ?_ rfl
      simp only [execOp, Option.map_some, Option.map_none, e0, e1]
      go_simp
      intro hh
      omega
    · intro a' he wx hb hd
      have e0 : a'.eval (.tmp 4) = .pointer (some ⟨z + 1 + 1, 0, none⟩) := he.get rfl
      exact mStep_read rfl (by simp [execOp, e0]) rfl
    · intro a' he wx hb hd
      have e0 : a'.eval (.tmp 50) = .pointer (some ⟨z + 1 + 1, 0, none⟩) := hd 8 rfl _ _ rfl rfl
      refine mStep_read rfl ?_ rfl
      simp only [execOp, e0]
      go_simp
    · intro a' he wx hb hd
      have e0 : a'.eval (.tmp 51) = .pointer (some ⟨z + 1 + 1, 0, none⟩) := hd 9 rfl _ _ rfl rfl
      refine mStep_read rfl ?_ rfl
      simp only [execOp, e0]
      go_simp
    · intro a' he wx hb hd
      have e0 : a'.eval (.tmp 52) = .pointer (some ⟨z + 1 + 1, 6, none⟩) := hd 10 rfl _ _ rfl rfl
      have c := (hF5.up (hBx wx hb)).cell 6
      refine mStep_read rfl ?_ rfl
      simp only [execOp, e0]
      go_simp
    · intro a' he wx hb hd
      have e0 : a'.eval (.tmp 1) = .pointer (some ⟨z, 0, none⟩) := he.get rfl
      refine mStep_read rfl ?_ rfl
      simp only [execOp, e0]
      go_simp
    · intro a' he wx hb hd
      have e0 : a'.eval (.tmp 54) = .pointer (some ⟨z, 1, none⟩) := hd 12 rfl _ _ rfl rfl
      have c := (hD5.below (hBx wx hb) hD5.lt).c1
      refine mStep_read rfl ?_ rfl
      simp only [execOp, e0]
      go_simp
    · intro a' he wx hb hd
      have e0 : a'.eval (.tmp 55) = .slice am ms.length cm := hd 13 rfl _ _ rfl rfl
      refine mStep_read rfl ?_ rfl
      simp [execOp, e0, resolve]
      go_simp
    · intro a' he wx hb hd
      have e0 : a'.eval (.tmp 53) = .slice (some ⟨g1, 0, none⟩) (ms.length + 80) (ms.length + 80) := hd 11 rfl _ _ rfl rfl
      have e1 : a'.eval (.tmp 56) = .int .i64 (ms.length : Nat) := hd 14 rfl _ _ rfl rfl
      refine mStep_read rfl ?_ rfl
      simp only [execOp, Option.map_some, Option.map_none, e0, e1]
      go_simp
      intro hh
      omega
    · intro a' he wx hb hd
      have e0 : a'.eval (.tmp 4) = .pointer (some ⟨z + 1 + 1, 0, none⟩) := he.get rfl
      exact mStep_read rfl (by simp [execOp, e0]) rfl
    · intro a' he wx hb hd
      have e0 : a'.eval (.tmp 58) = .pointer (some ⟨z + 1 + 1, 0, none⟩) := hd 16 rfl _ _ rfl rfl
      refine mStep_read rfl ?_ rfl
      simp only [execOp, e0]
      go_simp
    · intro a' he wx hb hd
      have e0 : a'.eval (.tmp 59) = .pointer (some ⟨z + 1 + 1, 0, none⟩) := hd 17 rfl _ _ rfl rfl
      refine mStep_read rfl ?_ rfl
      simp only [execOp, e0]
      go_simp
    · intro a' he wx hb hd
      have e0 : a'.eval (.tmp 60) = .pointer (some ⟨z + 1 + 1, 7, none⟩) := hd 18 rfl _ _ rfl rfl
      have c := (hF5.up (hBx wx hb)).cell 7
      refine mStep_read rfl ?_ rfl
      simp only [execOp, e0]
      go_simp
    · intro a' he wx hb hd
      have e0 : a'.eval (.tmp 1) = .pointer (some ⟨z, 0, none⟩) := he.get rfl
      refine mStep_read rfl ?_ rfl
      simp only [execOp, e0]
      go_simp
    · intro a' he wx hb hd
      have e0 : a'.eval (.tmp 62) = .pointer (some ⟨z, 2, none⟩) := hd 20 rfl _ _ rfl rfl
      have c := (hD5.below (hBx wx hb) hD5.lt).c2
      refine mStep_read rfl ?_ rfl
      simp only [execOp, e0]
      go_simp
    · intro a' he wx hb hd
      have e0 : a'.eval (.tmp 63) = .slice a A.length ca := hd 21 rfl _ _ rfl rfl
      refine mStep_read rfl ?_ rfl
      simp [execOp, e0, resolve]
      go_simp
    · intro a' he wx hb hd
      have e0 : a'.eval (.tmp 61) = .slice (some ⟨g2, 0, none⟩) (A.length + 80) (A.length + 80) := hd 19 rfl _ _ rfl rfl
      have e1 : a'.eval (.tmp 64) = .int .i64 (A.length : Nat) := hd 22 rfl _ _ rfl rfl
      refine mStep_read rfl ?_ rfl
      simp only [execOp, Option.map_some, Option.map_none, e0, e1]
      go_simp
      intro hh
      omega
    · intro a' he wx hb hd
      have e0 : a'.eval (.tmp 4) = .pointer (some ⟨z + 1 + 1, 0, none⟩) := he.get rfl
      exact mStep_read rfl (by simp [execOp, e0]) rfl
    · intro a' he wx hb hd
      have e0 : a'.eval (.tmp 66) = .pointer (some ⟨z + 1 + 1, 0, none⟩) := hd 24 rfl _ _ rfl rfl
      refine mStep_read rfl ?_ rfl
      simp only [execOp, e0]
      go_simp
    · intro a' he wx hb hd
      have e0 : a'.eval (.tmp 67) = .pointer (some ⟨z + 1 + 1, 0, none⟩) := hd 25 rfl _ _ rfl rfl
      refine mStep_read rfl ?_ rfl
      simp only [execOp, e0]
      go_simp
    · intro a' he wx hb hd
      have e0 : a'.eval (.tmp 68) = .pointer (some ⟨z + 1 + 1, 8, none⟩) := hd 26 rfl _ _ rfl rfl
      have c := (hF5.up (hBx wx hb)).cell 8
      refine mStep_read rfl ?_ rfl
      simp only [execOp, e0]
      go_simp
    · intro a' he wx hb hd
      have e0 : a'.eval (.tmp 1) = .pointer (some ⟨z, 0, none⟩) := he.get rfl
      refine mStep_read rfl ?_ rfl
      simp only [execOp, e0]
      go_simp
    · intro a' he wx hb hd
      have e0 : a'.eval (.tmp 70) = .pointer (some ⟨z, 3, none⟩) := hd 28 rfl _ _ rfl rfl
      have c := (hD5.below (hBx wx hb) hD5.lt).c3
      refine mStep_read rfl ?_ rfl
      simp only [execOp, e0]
      go_simp
    · intro a' he wx hb hd
      have e0 : a'.eval (.tmp 71) = .slice b B.length cb := hd 29 rfl _ _ rfl rfl
      refine mStep_read rfl ?_ rfl
      simp [execOp, e0, resolve]
      go_simp
    · intro a' he wx hb hd
      have e0 : a'.eval (.tmp 69) = .slice (some ⟨g3, 0, none⟩) (B.length + 80) (B.length + 80) := hd 27 rfl _ _ rfl rfl
      have e1 : a'.eval (.tmp 72) = .int .i64 (B.length : Nat) := hd 30 rfl _ _ rfl rfl
      refine mStep_read rfl ?_ rfl
      simp only [execOp, Option.map_some, Option.map_none, e0, e1]
      go_simp
      intro hh
      omega
    · intro a' he wx hb hd
      have e0 : a'.eval (.tmp 4) = .pointer (some ⟨z + 1 + 1, 0, none⟩) := he.get rfl
      exact mStep_read rfl (by simp [execOp, e0]) rfl
    · intro a' he wx hb hd
      have e0 : a'.eval (.tmp 74) = .pointer (some ⟨z + 1 + 1, 0, none⟩) := hd 32 rfl _ _ rfl rfl
      refine mStep_read rfl ?_ rfl
      simp only [execOp, e0]
      go_simp
    · intro a' he wx hb hd
      have e0 : a'.eval (.tmp 75) = .pointer (some ⟨z + 1 + 1, 0, none⟩) := hd 33 rfl _ _ rfl rfl
      refine mStep_read rfl ?_ rfl
      simp only [execOp, e0]
      go_simp
    · intro a' he wx hb hd
      have e0 : a'.eval (.tmp 76) = .pointer (some ⟨z + 1 + 1, 9, none⟩) := hd 34 rfl _ _ rfl rfl
      have c := (hF5.up (hBx wx hb)).cell 9
      refine mStep_read rfl ?_ rfl
      simp only [execOp, e0]
      go_simp
    · intro a' he wx hb hd
      have e0 : a'.eval (.tmp 1) = .pointer (some ⟨z, 0, none⟩) := he.get rfl
      refine mStep_read rfl ?_ rfl
      simp only [execOp, e0]
      go_simp
    · intro a' he wx hb hd
      have e0 : a'.eval (.tmp 78) = .pointer (some ⟨z, 4, none⟩) := hd 36 rfl _ _ rfl rfl
      have c := (hD5.below (hBx wx hb) hD5.lt).c4
      refine mStep_read rfl ?_ rfl
      simp only [execOp, e0]
      go_simp
    · intro a' he wx hb hd
      have e0 : a'.eval (.tmp 79) = .slice c C.length cc := hd 37 rfl _ _ rfl rfl
      refine mStep_read rfl ?_ rfl
      simp [execOp, e0, resolve]
      go_simp
    · intro a' he wx hb hd
      have e0 : a'.eval (.tmp 77) = .slice (some ⟨g4, 0, none⟩) (C.length + 80) (C.length + 80) := hd 35 rfl _ _ rfl rfl
      have e1 : a'.eval (.tmp 80) = .int .i64 (C.length : Nat) := hd 38 rfl _ _ rfl rfl
      refine mStep_read rfl ?_ rfl
      simp only [execOp, Option.map_some, Option.map_none, e0, e1]
      go_simp
      intro hh
      omega
    · intro a' he wx hb hd
      have e0 : a'.eval (.tmp 49) = .slice (some ⟨g0, 0, none⟩) ws.length (ws.length + 80) := hd 7 rfl _ _ rfl rfl
      have e1 : a'.eval (.tmp 57) = .slice (some ⟨g1, 0, none⟩) ms.length (ms.length + 80) := hd 15 rfl _ _ rfl rfl
      have e2 : a'.eval (.tmp 65) = .slice (some ⟨g2, 0, none⟩) A.length (A.length + 80) := hd 23 rfl _ _ rfl rfl
      have e3 : a'.eval (.tmp 73) = .slice (some ⟨g3, 0, none⟩) B.length (B.length + 80) := hd 31 rfl _ _ rfl rfl
      have e4 : a'.eval (.tmp 81) = .slice (some ⟨g4, 0, none⟩) C.length (C.length + 80) := hd 39 rfl _ _ rfl rfl
      refine mStep_read rfl ?_ rfl
      first | (simp [execOp, e0, e1, e2, e3, e4]; done) | (simp [execOp, e0, e1, e2, e3, e4]; go_simp; done) | (simp [execOp, e0, e1, e2, e3, e4, resolve]; go_simp; done) | (simp only [execOp, e0, e1, e2, e3, e4]; go_simp)
  case fin =>
    rintro wx hb _ rfl _ rfl _ rfl _ rfl _ rfl _ rfl _ rfl _ rfl _ rfl _ rfl _ rfl _ rfl _ rfl _ rfl _ rfl _ rfl _ rfl _ rfl _ rfl _ rfl _ rfl _ rfl _ rfl _ rfl _ rfl _ rfl _ rfl _ rfl _ rfl _ rfl _ rfl _ rfl _ rfl _ rfl _ rfl _ rfl _ rfl _ rfl _ rfl _ rfl _ rfl
    simp only [finV, Act.put, List.setIfInBounds_toArray, List.set_cons_succ, List.set_cons_zero, List.drop_succ_cons, List.drop_zero]
    have hbd : Below U5.heap.size U5 wx := ⟨hb.os, hb.tape, hb.output, hb.size, hb.block⟩
    have hR6 := hR5.up hbd
    have hF6 := hF5.up hbd
    have hB6 := hB5.trans (hbd.mono hB5.size)
    have q0 := r05.below hbd r05.lt
    have q1 := r15.below hbd r15.lt
    have q2 := r25.below hbd r25.lt
    have q3 := r35.below hbd r35.lt
    have q4 := r45.below hbd r45.lt
    have z0 := hR6.cell 0
    have z1 := hR6.cell 1
    have z2 := hR6.cell 2
    have z3 := hR6.cell 3
    have z4 := hR6.cell 4
    have zf := fun j => hR6.free j
    clear hbd hb hD5 hR5 hF5 hB5 r05 r15 r25 r35 r45
    go_wp2_with fail
    have hX : DBox wx (z + 1) _ _ _ _ _ := hR6
    have hY := ((((hX.s0 (.slice (some ⟨g0, 0, none⟩) ws.length (ws.length + 80))).s1 (.slice (some ⟨g1, 0, none⟩) ms.length (ms.length + 80))).s2 (.slice (some ⟨g2, 0, none⟩) A.length (A.length + 80))).s3 (.slice (some ⟨g3, 0, none⟩) B.length (B.length + 80))).s4 (.slice (some ⟨g4, 0, none⟩) C.length (C.length + 80))
    have hB7 := ((((hB6.setCell (p := ⟨z + 1, 0, none⟩) (show w.heap.size ≤ z + 1 by rw [HZ.out]; omega) (.slice (some ⟨g0, 0, none⟩) ws.length (ws.length + 80))).setCell (p := ⟨z + 1, 1, none⟩) (show w.heap.size ≤ z + 1 by rw [HZ.out]; omega) (.slice (some ⟨g1, 0, none⟩) ms.length (ms.length + 80))).setCell (p := ⟨z + 1, 2, none⟩) (show w.heap.size ≤ z + 1 by rw [HZ.out]; omega) (.slice (some ⟨g2, 0, none⟩) A.length (A.length + 80))).setCell (p := ⟨z + 1, 3, none⟩) (show w.heap.size ≤ z + 1 by rw [HZ.out]; omega) (.slice (some ⟨g3, 0, none⟩) B.length (B.length + 80))).setCell (p := ⟨z + 1, 4, none⟩) (show w.heap.size ≤ z + 1 by rw [HZ.out]; omega) (.slice (some ⟨g4, 0, none⟩) C.length (C.length + 80))
    have s0 := ((((q0.other (b := z + 1) (o := 0) (by omega) (.slice (some ⟨g0, 0, none⟩) ws.length (ws.length + 80))).other (b := z + 1) (o := 1) (by omega) (.slice (some ⟨g1, 0, none⟩) ms.length (ms.length + 80))).other (b := z + 1) (o := 2) (by omega) (.slice (some ⟨g2, 0, none⟩) A.length (A.length + 80))).other (b := z + 1) (o := 3) (by omega) (.slice (some ⟨g3, 0, none⟩) B.length (B.length + 80))).other (b := z + 1) (o := 4) (by omega) (.slice (some ⟨g4, 0, none⟩) C.length (C.length + 80))
    have s1 := ((((q1.other (b := z + 1) (o := 0) (by omega) (.slice (some ⟨g0, 0, none⟩) ws.length (ws.length + 80))).other (b := z + 1) (o := 1) (by omega) (.slice (some ⟨g1, 0, none⟩) ms.length (ms.length + 80))).other (b := z + 1) (o := 2) (by omega) (.slice (some ⟨g2, 0, none⟩) A.length (A.length + 80))).other (b := z + 1) (o := 3) (by omega) (.slice (some ⟨g3, 0, none⟩) B.length (B.length + 80))).other (b := z + 1) (o := 4) (by omega) (.slice (some ⟨g4, 0, none⟩) C.length (C.length + 80))
    have s2 := ((((q2.other (b := z + 1) (o := 0) (by omega) (.slice (some ⟨g0, 0, none⟩) ws.length (ws.length + 80))).other (b := z + 1) (o := 1) (by omega) (.slice (some ⟨g1, 0, none⟩) ms.length (ms.length + 80))).other (b := z + 1) (o := 2) (by omega) (.slice (some ⟨g2, 0, none⟩) A.length (A.length + 80))).other (b := z + 1) (o := 3) (by omega) (.slice (some ⟨g3, 0, none⟩) B.length (B.length + 80))).other (b := z + 1) (o := 4) (by omega) (.slice (some ⟨g4, 0, none⟩) C.length (C.length + 80))
    have s3 := ((((q3.other (b := z + 1) (o := 0) (by omega) (.slice (some ⟨g0, 0, none⟩) ws.length (ws.length + 80))).other (b := z + 1) (o := 1) (by omega) (.slice (some ⟨g1, 0, none⟩) ms.length (ms.length + 80))).other (b := z + 1) (o := 2) (by omega) (.slice (some ⟨g2, 0, none⟩) A.length (A.length + 80))).other (b := z + 1) (o := 3) (by omega) (.slice (some ⟨g3, 0, none⟩) B.length (B.length + 80))).other (b := z + 1) (o := 4) (by omega) (.slice (some ⟨g4, 0, none⟩) C.length (C.length + 80))
    have s4 := ((((q4.other (b := z + 1) (o := 0) (by omega) (.slice (some ⟨g0, 0, none⟩) ws.length (ws.length + 80))).other (b := z + 1) (o := 1) (by omega) (.slice (some ⟨g1, 0, none⟩) ms.length (ms.length + 80))).other (b := z + 1) (o := 2) (by omega) (.slice (some ⟨g2, 0, none⟩) A.length (A.length + 80))).other (b := z + 1) (o := 3) (by omega) (.slice (some ⟨g3, 0, none⟩) B.length (B.length + 80))).other (b := z + 1) (o := 4) (by omega) (.slice (some ⟨g4, 0, none⟩) C.length (C.length + 80))
    have hF7 := ((((hF6.other (b := z + 1) (o := 0) (by omega) (.slice (some ⟨g0, 0, none⟩) ws.length (ws.length + 80))).other (b := z + 1) (o := 1) (by omega) (.slice (some ⟨g1, 0, none⟩) ms.length (ms.length + 80))).other (b := z + 1) (o := 2) (by omega) (.slice (some ⟨g2, 0, none⟩) A.length (A.length + 80))).other (b := z + 1) (o := 3) (by omega) (.slice (some ⟨g3, 0, none⟩) B.length (B.length + 80))).other (b := z + 1) (o := 4) (by omega) (.slice (some ⟨g4, 0, none⟩) C.length (C.length + 80))
    have t0 := hY.c0
    have t1 := hY.c1
    have t2 := hY.c2
    have t3 := hY.c3
    have t4 := hY.c4
    exact bodyPost_ret (v := .tuple #[.agg #[.slice (some ⟨g0, 0, none⟩) ws.length (ws.length + 80), .slice (some ⟨g1, 0, none⟩) ms.length (ms.length + 80), .slice (some ⟨g2, 0, none⟩) A.length (A.length + 80), .slice (some ⟨g3, 0, none⟩) B.length (B.length + 80), .slice (some ⟨g4, 0, none⟩) C.length (C.length + 80)], .pointer (some ⟨z + 1 + 1, 0, none⟩)]) (by simp [results, Tryd.results15, go_sem, t0, t1, t2, t3, t4]) rfl ⟨g0, g1, g2, g3, g4, z + 1 + 1, rfl, s0, s1, s2, s3, s4, hF7, hB7⟩
end Go.Proofs.YtlnebbciefdpoaaDoor
