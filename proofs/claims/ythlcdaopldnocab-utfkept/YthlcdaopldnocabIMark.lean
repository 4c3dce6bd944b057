/- The law's mark of an item: its contract. -/
import Derived.Test.YthlcdaopldnocabIBook
namespace Go.Proofs.Ythlcdaopldnocab
open Go.RowKit
open Go.Joins
/-- The mark of place j of list i. -/
def markV (i j : Nat) : Value := .agg #[.int .i64 (-100 - (i : Int)), .int .i64 (-(j : Int)), .int .i32 0, .bool false]
def markC (i j : Nat) : List Value := [.int .i64 (-100 - (i : Int)), .int .i64 (-(j : Int)), .int .i32 0, .bool false]
set_option maxHeartbeats 400000 in
theorem mark_any (i j : Nat) (w : World) (hi : i ≤ 1000000) (hj : j ≤ 9223372036854775807) :
    Calls Try.prog 14 #[.int .i64 i, .int .i64 j] w fun e w' => e = .returned (markV i j) ∧ Below w.heap.size w w' := by
  go_enter Try.func14, Try.ntmps14
  go_wp2
  exact bodyPost_ret (v := markV i j) (by simp [results, Try.results14, go_sem, markV]) rfl ⟨rfl, (Below.refl _ _).alloc (Nat.le_refl _) _⟩
end Go.Proofs.Ythlcdaopldnocab
