/- tesseralaw4.few, tesserabook.Within from 0 to 9: their contracts. -/
import Derived.Test.YtddeamecgbdajaaDoorSClone
namespace Go.Proofs.YtddeamecgbdajaaDoor
open Go.RowKit Go.Sort Go.Joins
/-- The first 500 bytes. -/
def fewS (s : ByteArray) : ByteArray := if 500 < s.size then s.extract 0 500 else s
theorem fewS_size (s : ByteArray) : (fewS s).size ≤ 500 := by
  unfold fewS
  split
  · simp
    omega
  · omega
theorem few_any (s : ByteArray) (w : World) : Calls Tryd.prog 20 #[.string s, .int .i64 500] w fun e w' => e = .returned (.string (fewS s)) ∧ w' = w := by
  unfold fewS
  by_cases h : 500 < s.size
  · rw [if_pos h]
    have hd : decide ((500 : Int) < (s.size : Int)) = true := decide_eq_true (by omega)
    go_enter Tryd.func20, Tryd.ntmps20
    go_wp2_with fail
    go_ret
    exact ⟨rfl, rfl⟩
  · rw [if_neg h]
    have hd : decide ((500 : Int) < (s.size : Int)) = false := decide_eq_false (by omega)
    go_enter Tryd.func20, Tryd.ntmps20
    go_wp2_with fail
    go_ret
    exact ⟨rfl, rfl⟩
theorem within9_any (n : Int) (w : World) :
    Calls Tryd.prog 22 #[.int .i64 n, .int .i64 0, .int .i64 9] w fun e w' => ∃ k : Nat, k ≤ 9 ∧ e = .returned (.int .i64 k) ∧ w' = w := by
  have t1 : n.tmod 10 < 10 := Int.tmod_lt_of_pos _ (by omega)
  have t2 : -10 < n.tmod 10 := by
    have := Int.lt_tmod_of_pos n (b := 10) (by omega)
    omega
  by_cases hp : n.tmod 10 < 0
  · go_enter Tryd.func22, Tryd.ntmps22
    go_wp2
    go_ret
    exact ⟨(n.tmod 10 + 10).toNat, by omega, ret_i64 (by simp; omega), rfl⟩
  · have hp' : 0 ≤ n.tmod 10 := by omega
    clear hp
    go_enter Tryd.func22, Tryd.ntmps22
    go_wp2
    go_ret
    exact ⟨(n.tmod 10).toNat, by omega, ret_i64 (by simp; omega), rfl⟩
end Go.Proofs.YtddeamecgbdajaaDoor
