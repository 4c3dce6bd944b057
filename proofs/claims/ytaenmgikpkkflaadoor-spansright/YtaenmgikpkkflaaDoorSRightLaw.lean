/- SpansRight: the walk. -/
import Derived.Test.YtaenmgikpkkflaaDoorSRoomy
import Derived.Test.YtaenmgikpkkflaaDoorSRefRight
import Derived.Test.YtaenmgikpkkflaaDoorSAsk
namespace Go.Proofs.YtaenmgikpkkflaaDoor
open Go.RowKit Go.Sort Go.Joins
set_option maxHeartbeats 2000000 in
theorem right_walk (a : Option Addr) (cap : Nat) (l : List Sp) (w : World) (hlen : l.length ≤ 17592186044416) (h : SPS w a l) (hG : GL w) :
    Calls Tryd.prog 4 #[.slice a l.length cap] w fun e w' => e = .returned (.bool true) ∧ Below w.heap.size w w' := by
  have H1 := roomy_any a cap l ⟨-7, 0⟩ w hlen h
  have H2 := fun (g : Nat) (wx : World) (hx : SPS wx (some ⟨g, 0, none⟩) l) (hg : GL wx) => right_any (some ⟨g, 0, none⟩) (l.length + 80) l wx (by omega) hx hg
  have H3 := fun (wx : World) (hx : SPS wx a l) => refRight_any a cap l wx (by omega) hx
  have H4 := fun (g : Nat) (wx : World) (hf : OwnP wx g (cellsS (fillS l ⟨-7, 0⟩ 80))) (hx : SPS wx a l) => intact_any g a cap l ⟨-7, 0⟩ wx hlen hf hx
  unfold spv at H1 H4
  obtain ⟨p, e, q, -⟩ := rowV_eq l
  rw [q] at H3
  simp only [q] at H2
  clear q
  have q1 : ((p : Int) == (p : Int)) = true := by simp
  have q2 : ((e : Int) == (e : Int)) = true := by simp
  go_enter Tryd.func4, Tryd.ntmps4
  go_wp2_with fail
  refine H1.mono ?_
  rintro r w1 ⟨g, hg, rfl, hb1, ho1⟩
  have h1 := h.below hb1
  have g1 := hG.below hb1
  have s1 : SPS w1 (some ⟨g, 0, none⟩) l := SPS.of_block ho1
  clear H1 h hG
  go_wp2_with fail
  refine (H2 g _ s1 g1).mono ?_
  rintro r w2 ⟨rfl, hb2⟩
  have h2 := h1.below hb2
  have g2 := g1.below hb2
  have ho2 := ho1.below hb2 ho1.lt
  have B2 := hb1.trans (hb2.mono hb1.size)
  clear H2 h1 g1 ho1 s1 hb2 hb1
  go_wp2_with fail
  refine (H3 _ h2).mono ?_
  rintro r w3 ⟨rfl, hb3⟩
  have h3 := h2.below hb3
  have g3 := g2.below hb3
  have ho3 := ho2.below hb3 ho2.lt
  have B3 := B2.trans (hb3.mono B2.size)
  clear H3 h2 g2 ho2 hb3 B2
  go_wp2_with fail
  refine (H4 g _ ho3 h3).mono ?_
  rintro r w4 ⟨rfl, hb4⟩
  have g4 := g3.below hb4
  have B4 := B3.trans (hb4.mono B3.size)
  clear H4 h3 g3 ho3 hb4 B3
  go_wp2_with fail
  refine (known_any _ g4).mono ?_
  rintro r w5 ⟨rfl, hb5⟩
  go_wp2_with fail
  go_ret
  exact ⟨rfl, B4.trans (hb5.mono B4.size)⟩
end Go.Proofs.YtaenmgikpkkflaaDoor
