/- utf.front: what its paths need. -/
import Derived.Test.YtddeamecgbdajaaDoorUScope
namespace Go.Proofs.YtddeamecgbdajaaDoor
open Go.RowKit
theorem not_empty (s : ByteArray) (h : 0 < s.size) : s.toList.isEmpty = false := by
  rw [ByteArray.toList_eq]
  cases hl : s.data.toList with
  | nil =>
    have : s.data.toList.length = s.size := by simp
    rw [hl] at this
    simp at this
    omega
  | cons a l => rfl
theorem stands_lit (s : ByteArray) (i lo hi : Nat) (i' lo' hi' : Int) (e1 : (i : Int) = i') (e2 : (lo : Int) = lo') (e3 : (hi : Int) = hi') (w : World) :
    Calls Tryd.prog 48 #[.string s, .int .i64 i', .int .u8 lo', .int .u8 hi'] w fun e w' => e = .returned (.bool (stands (tl s) i lo hi)) ∧ w' = w := by
  subst e1 e2 e3; exact stands_any s i lo hi w
theorem bt_zero (s : ByteArray) (h : 0 < s.size) : bt (tl s) 0 = (s[0]).toNat := by
  unfold bt
  rw [List.getD_eq_getElem?_getD, List.getElem?_eq_getElem (by simpa using h)]
  rfl
end Go.Proofs.YtddeamecgbdajaaDoor
