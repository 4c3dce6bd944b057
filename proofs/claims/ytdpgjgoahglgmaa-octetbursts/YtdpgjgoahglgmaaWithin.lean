/- tesserabook.Within from nought: its contract. -/
import Derived.Test.YtdpgjgoahglgmaaRows
import Derived.Test.YtdpgjgoahglgmaaView
import Derived.WalkSpells
import Derived.WalkLawsBesides
namespace Go.Proofs.Ytdpgjgoahglgmaa
open Go.RowKit
set_option maxHeartbeats 400000 in
theorem within_zero (n : Int) (hi : Nat) (w : World) (h : hi ≤ 1000000) :
    Calls Try.prog 23 #[.int .i64 n, .int .i64 0, .int .i64 hi] w fun e w' => (∃ m : Nat, e = .returned (.int .i64 m) ∧ m ≤ hi) ∧ Below w.heap.size w w' := by
  have hu : n.tmod ((hi : Int) + 1) ≤ hi := by have := Int.tmod_lt_of_pos n (show (0 : Int) < (hi : Int) + 1 by omega); omega
  have hl : -(hi : Int) ≤ n.tmod ((hi : Int) + 1) := by have := Int.lt_tmod_of_pos n (show (0 : Int) < (hi : Int) + 1 by omega); omega
  go_enter Try.func23, Try.ntmps23
  go_wp2
  · go_ret
    exact ⟨⟨(n.tmod ((hi : Int) + 1) + hi + 1).toNat, by
      have e : (((n.tmod ((hi : Int) + 1) + hi + 1).toNat : Nat) : Int) = n.tmod ((hi : Int) + 1) + hi + 1 := by omega
      rw [e]; rfl, by omega⟩, Below.refl _ _⟩
  · go_ret
    exact ⟨⟨(n.tmod ((hi : Int) + 1)).toNat, by
      have e : (((n.tmod ((hi : Int) + 1)).toNat : Nat) : Int) = n.tmod ((hi : Int) + 1) := by omega
      rw [e]; rfl, by omega⟩, Below.refl _ _⟩
end Go.Proofs.Ytdpgjgoahglgmaa
