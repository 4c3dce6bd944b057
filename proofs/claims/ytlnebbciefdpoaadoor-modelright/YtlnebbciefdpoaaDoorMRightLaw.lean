/- ModelRight: the walk. -/
import Derived.Test.YtlnebbciefdpoaaDoorMIntact
namespace Go.Proofs.YtlnebbciefdpoaaDoor
open Go.RowKit Go.Sort Go.Joins
set_option linter.unusedVariables false
set_option maxRecDepth 100000 in
set_option maxHeartbeats 4000000 in
theorem mright_walk (aw am a b c : Option Addr) (cw cm ca cb cc : Nat) (ws : List ByteArray) (ms : List Mg) (A B C : List Sp) (w : World) (hwf : MWf ms) (hn : ws.length ≤ 8796093022208 ∧ ms.length ≤ 5864062014805 ∧ A.length ≤ 17592186044416 ∧ B.length ≤ 17592186044416 ∧ C.length ≤ 17592186044416) (hW : WSP w aw ws) (hM : MSP w am ms) (hA : SPS w a A) (hB : SPS w b B) (hC : SPS w c C) (hG : GL w) :
    Calls Tryd.prog 4 #[.agg #[.slice aw ws.length cw, .slice am ms.length cm, .slice a A.length ca, .slice b B.length cb, .slice c C.length cc]] w fun e w' => e = .returned (.bool true) ∧ Below w.heap.size w w' := by
  have hD := DBox.new w (.slice aw ws.length cw) (.slice am ms.length cm) (.slice a A.length ca) (.slice b B.length cb) (.slice c C.length cc)
  have hb0 := box_below w (.cells #[.slice aw ws.length cw, .slice am ms.length cm, .slice a A.length ca, .slice b B.length cb, .slice c C.length cc] 42)
  have HW : Hid (WSP w aw ws) := hW
  have HM : Hid (MSP w am ms) := hM
  have HA : Hid (SPS w a A) := hA
  have HB : Hid (SPS w b B) := hB
  have HC : Hid (SPS w c C) := hC
  have HG : Hid (GL w) := hG
  have HN : Hid (ws.length ≤ 8796093022208 ∧ ms.length ≤ 5864062014805 ∧ A.length ≤ 17592186044416 ∧ B.length ≤ 17592186044416 ∧ C.length ≤ 17592186044416) := hn
  clear hW hM hA hB hC hG hn
  have x0 := hD.c0
  have x1 := hD.c1
  have x2 := hD.c2
  have x3 := hD.c3
  have x4 := hD.c4
  go_enter Tryd.func4, Tryd.ntmps4
  go_wp2_with fail
  obtain ⟨Y, hY⟩ : ∃ Y, Y = w.alloc (.cells #[.slice aw ws.length cw, .slice am ms.length cm, .slice a A.length ca, .slice b B.length cb, .slice c C.length cc] 42) := ⟨_, rfl⟩
  rw [← hY] at hb0 ⊢
  clear hY x0 x1 x2 x3 x4 hD
  refine (handed_any aw am a b c cw cm ca cb cc ws ms A B C Y HN.out (HW.out.below hb0) (HM.out.below hb0) (HA.out.below hb0) (HB.out.below hb0) (HC.out.below hb0)).mono ?_
  rintro e w1 ⟨g0, g1, g2, g3, g4, gf, rfl, r0, r1, r2, r3, r4, hF, hb1⟩
  have B1 := hb0.trans (hb1.mono hb0.size)
  have bn := box_below w1 (.cells #[.slice (some ⟨g0, 0, none⟩) ws.length (ws.length + 80), .slice (some ⟨g1, 0, none⟩) ms.length (ms.length + 80), .slice (some ⟨g2, 0, none⟩) A.length (A.length + 80), .slice (some ⟨g3, 0, none⟩) B.length (B.length + 80), .slice (some ⟨g4, 0, none⟩) C.length (C.length + 80)] 42)
  have hD2 := DBox.new w1 (.slice (some ⟨g0, 0, none⟩) ws.length (ws.length + 80)) (.slice (some ⟨g1, 0, none⟩) ms.length (ms.length + 80)) (.slice (some ⟨g2, 0, none⟩) A.length (A.length + 80)) (.slice (some ⟨g3, 0, none⟩) B.length (B.length + 80)) (.slice (some ⟨g4, 0, none⟩) C.length (C.length + 80))
  have p0 := r0.below bn r0.lt
  have p1 := r1.below bn r1.lt
  have p2 := r2.below bn r2.lt
  have p3 := r3.below bn r3.lt
  have p4 := r4.below bn r4.lt
  have pF := hF.up bn
  have B2 := B1.trans (bn.mono B1.size)
  clear r0 r1 r2 r3 r4 hF hb1 B1 bn hb0
  have x0 := hD2.c0
  have x1 := hD2.c1
  have x2 := hD2.c2
  have x3 := hD2.c3
  have x4 := hD2.c4
  go_wp2_with fail
  obtain ⟨W1, hW1⟩ : ∃ W1, W1 = w1.alloc (.cells #[.slice (some ⟨g0, 0, none⟩) ws.length (ws.length + 80), .slice (some ⟨g1, 0, none⟩) ms.length (ms.length + 80), .slice (some ⟨g2, 0, none⟩) A.length (A.length + 80), .slice (some ⟨g3, 0, none⟩) B.length (B.length + 80), .slice (some ⟨g4, 0, none⟩) C.length (C.length + 80)] 42) := ⟨_, rfl⟩
  rw [← hW1] at p0 p1 p2 p3 p4 pF B2 ⊢
  clear hW1 x0 x1 x2 x3 x4 hD2
  have n0 := HN.out
  refine (keepOf_any (some ⟨g0, 0, none⟩) (some ⟨g1, 0, none⟩) (some ⟨g2, 0, none⟩) (some ⟨g3, 0, none⟩) (some ⟨g4, 0, none⟩) (ws.length + 80) (ms.length + 80) (A.length + 80) (B.length + 80) (C.length + 80) ws ms A B C W1 hwf (by omega) (WSP.of_block p0) (MSP.of_block p1) ⟨by omega, by omega, SPS.of_block p2⟩ ⟨by omega, by omega, SPS.of_block p3⟩ ⟨by omega, by omega, SPS.of_block p4⟩ (HG.out.below B2)).mono ?_
  rintro e w2 ⟨p, rfl, -, -, hb2⟩
  have B3 := B2.trans (hb2.mono B2.size)
  have hI := frameIntact_any gf g0 g1 g2 g3 g4 aw am a b c cw cm ca cb cc ws ms A B C w2 HN.out (HW.out.below B3) (HM.out.below B3) (HA.out.below B3) (HB.out.below B3) (HC.out.below B3) (pF.up hb2) (p0.below hb2 p0.lt) (p1.below hb2 p1.lt) (p2.below hb2 p2.lt) (p3.below hb2 p3.lt) (p4.below hb2 p4.lt)
  have hG3 := HG.out.below B3
  obtain ⟨U, hU⟩ : ∃ U, U = upB ws ms A B C := ⟨_, rfl⟩
  rw [← hU]
  clear hU p0 p1 p2 p3 p4 pF B2 hb2 n0 HW HM HA HB HC HG HN
  cases U
  all_goals
    go_wp2_with fail
    refine hI.mono ?_
    rintro e w3 ⟨rfl, hb3⟩
    have B4 := B3.trans (hb3.mono B3.size)
    have hG4 := hG3.below hb3
    clear hI hb3 hG3 B3
    go_wp2_with fail
    refine (known_any w3 hG4).mono ?_
    rintro e w4 ⟨rfl, hb4⟩
    go_wp2_with fail
    go_ret
    exact ⟨rfl, B4.trans (hb4.mono B4.size)⟩
end Go.Proofs.YtlnebbciefdpoaaDoor
