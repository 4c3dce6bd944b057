/- ClassesRight: the walk. -/
import Derived.Test.YtddeamecgbdajaaDoorCKnown
import Derived.Test.YtddeamecgbdajaaDoorSRoomy
import Derived.Test.YtddeamecgbdajaaDoorURegion
import Derived.Deep.RegionWith
namespace Go.Proofs.YtddeamecgbdajaaDoor
open Go.RowKit Go.Sort Go.Joins
set_option maxRecDepth 100000 in
set_option maxHeartbeats 4000000 in
theorem right_walk (a b c : Option Addr) (ca cb cc : Nat) (A B C : List Sp) (w : World) (hzA : A.length ≤ 17592186044416) (hzB : B.length ≤ 17592186044416) (hzC : C.length ≤ 17592186044416) (hA : SPS w a A) (hB : SPS w b B) (hC : SPS w c C) (hG : GL w) :
    Calls Tryd.prog 4 #[.slice a A.length ca, .slice b B.length cb, .slice c C.length cc] w fun e w' => e = .returned (.bool true) ∧ Below w.heap.size w w' := by
  have H1 := roomy_any a ca A ⟨-7, 0⟩ w hzA hA
  have H2 := fun (wx : World) (h : SPS wx b B) => roomy_any b cb B ⟨-7, 0⟩ wx hzB h
  have H3 := fun (wx : World) (h : SPS wx c C) => roomy_any c cc C ⟨-7, 0⟩ wx hzC h
  have H4 := fun (x y z : Nat) (wx : World) (h1 : Lst wx (some ⟨x, 0, none⟩) (A.length + 80) A) (h2 : Lst wx (some ⟨y, 0, none⟩) (B.length + 80) B) (h3 : Lst wx (some ⟨z, 0, none⟩) (C.length + 80) C) (hg : GL wx) => lawRight_any none none (some ⟨x, 0, none⟩) (some ⟨y, 0, none⟩) (some ⟨z, 0, none⟩) 0 0 0 0 (A.length + 80) (B.length + 80) (C.length + 80) A B C wx h1 h2 h3 hg
  have H5 := fun (g : Nat) (wx : World) (hf : OwnP wx g (cellsS (fillS A ⟨-7, 0⟩ 80))) (hx : SPS wx a A) => intact_any g a ca A ⟨-7, 0⟩ wx hzA hf hx
  have H6 := fun (g : Nat) (wx : World) (hf : OwnP wx g (cellsS (fillS B ⟨-7, 0⟩ 80))) (hx : SPS wx b B) => intact_any g b cb B ⟨-7, 0⟩ wx hzB hf hx
  have H7 := fun (g : Nat) (wx : World) (hf : OwnP wx g (cellsS (fillS C ⟨-7, 0⟩ 80))) (hx : SPS wx c C) => intact_any g c cc C ⟨-7, 0⟩ wx hzC hf hx
  unfold spv at H1 H2 H3 H5 H6 H7
  unfold dtV at H4
  have na := hzA
  have nb := hzB
  have nc := hzC
  go_enter Tryd.func4, Tryd.ntmps4
  go_wp2_with fail
  refine H1.mono ?_
  rintro r w1 ⟨x, hx, rfl, hb1, ho1⟩
  have hA1 := hA.below hb1
  have hB1 := hB.below hb1
  have hC1 := hC.below hb1
  have hG1 := hG.below hb1
  clear H1 hA hB hC hG
  go_wp2_with fail
  refine (H2 _ hB1).mono ?_
  rintro r w2 ⟨y, hy, rfl, hb2, ho2⟩
  have hA2 := hA1.below hb2
  have hB2 := hB1.below hb2
  have hC2 := hC1.below hb2
  have hG2 := hG1.below hb2
  have oA2 := ho1.below hb2 ho1.lt
  have B2 := hb1.trans (hb2.mono hb1.size)
  clear H2 hA1 hB1 hC1 hG1 ho1 hb1 hb2
  go_wp2_with fail
  refine (H3 _ hC2).mono ?_
  rintro r w3 ⟨z, hz, rfl, hb3, oC3⟩
  have hA3 := hA2.below hb3
  have hB3 := hB2.below hb3
  have hC3 := hC2.below hb3
  have hG3 := hG2.below hb3
  have oA3 := oA2.below hb3 oA2.lt
  have oB3 := ho2.below hb3 ho2.lt
  have B3 := B2.trans (hb3.mono B2.size)
  clear H3 hA2 hB2 hC2 hG2 oA2 ho2 hb3 B2 hx hy hz
  go_wp2_with fail
  have H4 := fun wx (e1 : OwnP wx x (cellsS (fillS A ⟨-7, 0⟩ 80))) (e2 : OwnP wx y (cellsS (fillS B ⟨-7, 0⟩ 80))) (e3 : OwnP wx z (cellsS (fillS C ⟨-7, 0⟩ 80))) (e4 : GL wx) => H4 x y z wx ⟨by omega, by omega, SPS.of_block e1⟩ ⟨by omega, by omega, SPS.of_block e2⟩ ⟨by omega, by omega, SPS.of_block e3⟩ e4
  have H4 := H4 w3.drew (show OwnP w3.drew x _ from oA3) (show OwnP w3.drew y _ from oB3) (show OwnP w3.drew z _ from oC3) (show GL w3.drew from hG3)
  generalize decide ((checkA A B C).1 = 0) = up at H4
  have B3 := B3.drew
  have KA : Hid (SPS w3.drew a A) := hA3
  have KB : Hid (SPS w3.drew b B) := hB3
  have KC : Hid (SPS w3.drew c C) := hC3
  have KG : Hid (GL w3.drew) := hG3
  have PA : Hid (OwnP w3.drew x (cellsS (fillS A ⟨-7, 0⟩ 80))) := oA3
  have PB : Hid (OwnP w3.drew y (cellsS (fillS B ⟨-7, 0⟩ 80))) := oB3
  have PC : Hid (OwnP w3.drew z (cellsS (fillS C ⟨-7, 0⟩ 80))) := oC3
  have KS : Hid (Below w.heap.size w w3.drew) := B3
  clear hA3 hB3 hC3 hG3 oA3 oB3 oC3 B3
  go_region_with (go_at_call 14; refine H4.mono ?_; rintro r w4 ⟨p, rfl, -, -, hb4⟩; have Hb4 : Hid (Below w3.drew.heap.size w3.drew w4) := hb4; clear hb4)
  all_goals (
    have hA4 := KA.out.below Hb4.out
    have hB4 := KB.out.below Hb4.out
    have hC4 := KC.out.below Hb4.out
    have hG4 := KG.out.below Hb4.out
    have oA4 := PA.out.below Hb4.out PA.out.lt
    have oB4 := PB.out.below Hb4.out PB.out.lt
    have oC4 := PC.out.below Hb4.out PC.out.lt
    have B4 := KS.out.trans (Hb4.out.mono KS.out.size)
    clear H4 KA KB KC KG PA PB PC Hb4 KS
    go_wp2_with fail
    refine (H5 x _ oA4 hA4).mono ?_
    rintro r w5 ⟨rfl, hb5⟩
    have hB5 := hB4.below hb5
    have hC5 := hC4.below hb5
    have hG5 := hG4.below hb5
    have oB5 := oB4.below hb5 oB4.lt
    have oC5 := oC4.below hb5 oC4.lt
    have B5 := B4.trans (hb5.mono B4.size)
    clear H5 hA4 hB4 hC4 hG4 oA4 oB4 oC4 hb5 B4
    go_wp2_with fail
    refine (H6 y _ oB5 hB5).mono ?_
    rintro r w6 ⟨rfl, hb6⟩
    have hC6 := hC5.below hb6
    have hG6 := hG5.below hb6
    have oC6 := oC5.below hb6 oC5.lt
    have B6 := B5.trans (hb6.mono B5.size)
    clear H6 hB5 hC5 hG5 oB5 oC5 hb6 B5
    go_wp2_with fail
    refine (H7 z _ oC6 hC6).mono ?_
    rintro r w7 ⟨rfl, hb7⟩
    have hG7 := hG6.below hb7
    have B7 := B6.trans (hb7.mono B6.size)
    clear H7 hC6 hG6 oC6 hb7 B6
    go_wp2_with fail
    refine (known_any _ hG7).mono ?_
    rintro r w8 ⟨rfl, hb8⟩
    go_wp2_with fail
    go_ret
    exact ⟨rfl, B7.trans (hb8.mono B7.size)⟩)
end Go.Proofs.YtddeamecgbdajaaDoor
