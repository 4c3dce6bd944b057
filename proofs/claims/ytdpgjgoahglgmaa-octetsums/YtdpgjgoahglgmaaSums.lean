/- OctetSums: the walk. -/
import Derived.Test.YtdpgjgoahglgmaaKnown
import Derived.Test.YtdpgjgoahglgmaaRefSum
namespace Go.Proofs.Ytdpgjgoahglgmaa
open Go.RowKit
set_option maxHeartbeats 400000 in
theorem sums_walk (a : Option Addr) (cap : Nat) (l : List UInt8) (w : World) (hlen : l.length ≤ 9223372036854775807) (h : BS w a l) :
    Calls Try.prog 7 #[.slice a l.length cap] w fun e w' => e = .returned (.bool true) ∧ Below w.heap.size w w' := by
  go_enter Try.func7, Try.ntmps7
  go_wp2_with (first
    | (go_at_call 11; refine (sum_any a cap l _ hlen h).mono ?_; rintro e w1 ⟨rfl, hb1⟩; have h1 := h.below hb1)
    | (go_at_call 22; refine (refsum_any a cap l _ hlen h1).mono ?_; rintro e w2 ⟨rfl, hb2⟩)
    | (go_at_call 12; refine (known_any _).mono ?_; rintro e w3 ⟨rfl, hb3⟩))
  go_ways
  go_ret
  exact ⟨rfl, (hb1.trans (hb2.mono hb1.size)).trans (hb3.mono (Nat.le_trans hb1.size hb2.size))⟩
end Go.Proofs.Ytdpgjgoahglgmaa
