/- UtfTails: the walk. -/
import Derived.Test.YthlcdaopldnocaaUKnown
import Derived.Test.YthlcdaopldnocaaURef3
import Derived.Test.YthlcdaopldnocaaURef4
namespace Go.Proofs.Ythlcdaopldnocaa
open Go.RowKit
set_option maxHeartbeats 800000 in
theorem tails_walk (s : ByteArray) (w : World) (hs : s.size ≤ 1048576) : Calls Try.prog 7 #[.string s] w fun e w' => e = .returned (.bool true) ∧ Below w.heap.size w w' := by
  have H1 := fun wx => tail_any s wx (by omega)
  have H2 := reftail_any s (by omega)
  have H3 := fun wx => replace_any s wx (by omega)
  have H4 := fun wx => refreplace_any s wx (by omega)
  generalize textOf (replL (tl s)) = t at *
  generalize tailL (tl s) = n at *
  go_enter Try.func7, Try.ntmps7
  go_wp2_with fail
  refine (H1 _).mono ?_; rintro e w1 ⟨rfl, rfl⟩
  go_wp2_with fail
  refine (H2 _).mono ?_; rintro e w2 ⟨rfl, hb2⟩
  go_wp2_with fail
  refine (H3 _).mono ?_; rintro e w3 ⟨rfl, hb3⟩
  go_wp2_with fail
  refine (H4 _).mono ?_; rintro e w4 ⟨rfl, hb4⟩
  go_wp2_with fail
  refine (known_any _).mono ?_; rintro e w5 ⟨rfl, hb5⟩
  go_wp2_with fail
  go_ret
  have s2 := hb2.size
  have s3 := hb3.size
  have s4 := hb4.size
  exact ⟨rfl, ((hb2.trans (hb3.mono (by omega))).trans (hb4.mono (by omega))).trans (hb5.mono (by omega))⟩
end Go.Proofs.Ythlcdaopldnocaa
