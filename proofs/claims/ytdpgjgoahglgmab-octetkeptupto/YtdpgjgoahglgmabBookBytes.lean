/- tesserabook.Bytes: its contract: the mark of a place. -/
import Derived.Test.YtdpgjgoahglgmabBook
namespace Go.Proofs.Ytdpgjgoahglgmab
open Go.RowKit
/-- The mark of place j of list i. -/
def markB (i j : Nat) : Nat := (i + 1) / 2 ^ (8 * (j % 3)) % 256
theorem mark_cast (i j : Nat) : ((i : Int) + 1) / 2 ^ (8 * (j % 3)) % 256 = ((markB i j : Nat) : Int) := by
  have e1 : ((i : Int) + 1) / 2 ^ (8 * (j % 3)) = (((i + 1) / 2 ^ (8 * (j % 3)) : Nat) : Int) := by
    rw [Int.natCast_ediv]; congr 1
  rw [e1]; unfold markB; omega
set_option maxHeartbeats 400000 in
theorem bytes_any (i j : Nat) (w : World) (hi : i ≤ 1000000) (hj : j ≤ 9223372036854775807) :
    Calls Try.prog 8 #[.int .i64 i, .int .i64 j] w fun e w' => e = .returned (.int .u8 (markB i j : Nat)) ∧ w' = w := by
  go_enter Try.func8, Try.ntmps8
  go_wp2
  go_ret
  refine ⟨?_, rfl⟩
  rw [mark_cast]
  rfl
end Go.Proofs.Ytdpgjgoahglgmab
