/- LruPlays, whatever the size. -/
import Derived.Test.YtafhgigkhbcnjaaLuPlays
namespace Go.Proofs.Ytafhgigkhbcnjaa.LU.K
open Go.RowKit Go.Joins Go.Sort Go.Maps
theorem plays_walk (c : Int) (a : Option Addr) (cap : Nat) (asks : List Ask) (W : World) (ha : ASP W a asks) (hk : ∀ y ∈ asks, Key64 y.key) (hlen : asks.length ≤ 9223372036854775807) :
    Calls Try.prog 4 #[.int .i64 c, .slice a asks.length cap] W fun e w' => e = .returned (.bool true) ∧ Below W.heap.size W w' := by
  by_cases h : 0 ≤ c ∧ c ≤ 4096
  · obtain ⟨n, rfl⟩ : ∃ n : Nat, c = n := ⟨c.toNat, by omega⟩
    exact plays_yes n (by omega) a cap asks W ha hk hlen
  · exact plays_no c (by omega) a asks.length cap W
end Go.Proofs.Ytafhgigkhbcnjaa.LU.K
