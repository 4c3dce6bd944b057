/- tesserabook.Within: its contract. -/
import Derived.Test.YtafhgigkhbcnjaaProg
import Derived.WalkKit
import Derived.ProofKit
import Derived.Below
import Derived.OpenShut
namespace Go.Proofs.Ytafhgigkhbcnjaa
open Go.RowKit
theorem ret_i64 {a b : Int} (h : a = b) : Ending.returned (.int .i64 a) = .returned (.int .i64 b) := by rw [h]
/-- A number brought between nothing and h. -/
theorem within_any (n : Int) (h : Nat) (hh : h ≤ 4294967296) (w : World) :
    Calls Try.prog 18 #[.int .i64 n, .int .i64 0, .int .i64 (h : Nat)] w fun e w' => ∃ k : Nat, k ≤ h ∧ e = .returned (.int .i64 k) ∧ w' = w := by
  have h1 : ((h : Int) + 1 == 0) = false := by simp; omega
  have t1 : n.tmod ((h : Int) + 1) < (h : Int) + 1 := Int.tmod_lt_of_pos _ (by omega)
  have t2 : -((h : Int) + 1) < n.tmod ((h : Int) + 1) := by
    have := Int.lt_tmod_of_pos n (b := (h : Int) + 1) (by omega)
    omega
  by_cases hp : n.tmod ((h : Int) + 1) < 0
  · go_enter Try.func18, Try.ntmps18
    go_wp2
    go_ret
    exact ⟨(n.tmod ((h : Int) + 1) + h + 1).toNat, by omega, ret_i64 (by simp; omega), rfl⟩
  · have hp' : 0 ≤ n.tmod ((h : Int) + 1) := by omega
    clear hp
    go_enter Try.func18, Try.ntmps18
    go_wp2
    go_ret
    exact ⟨(n.tmod ((h : Int) + 1)).toNat, by omega, ret_i64 (by simp; omega), rfl⟩
end Go.Proofs.Ytafhgigkhbcnjaa
