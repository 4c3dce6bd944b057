import Derived.Test.YtonbfcpbgkpbaaaDoorJ10
import Derived.Laws.IdiomStrings
import Derived.Laws.RangeAny
import Derived.Test.YtonbfcpbgkpbaaaDoorJ2
import Derived.OwnWalk
import Derived.RangeFuncNested
import Derived.RangeFuncBound
import Derived.RangeFuncCalls
import Derived.RangeFuncLeaves
import Derived.RangeFuncBox
import Derived.Shelf.Abstract
import Derived.Shelf.RegionOpen
import Derived.WalkKit
import Derived.OwnWalkIn
import Derived.TacticsInMore
import Derived.LoopNIn
import Derived.LoopIn
import Derived.Maps.AppendAt
section
/- utf.front: its contract, label by label. -/
namespace Go.Proofs.YtonbfcpbgkpbaaaDoor
open Go.RowKit
/-- The code of front's scope. -/
def scopeIn (f : Func) : Code := match f.body with
  | some (.seq _ (.scope c)) => c
  | _ => .skip
/-- What front's run ends with. -/
abbrev FQ (w : World) (r : Nat × Bool) : Exit → Act → World → Prop := bodyPost Tryd.prog Tryd.f53 fun e w' => e = .returned (.tuple #[.int .i64 (r.1 : Nat), .bool r.2]) ∧ w' = w
abbrev FOn (w : World) (r : Nat × Bool) (l : Nat) (a : Act) : Prop := On Tryd.prog (scopeIn Tryd.f53) (FQ w r) l a w
theorem at_whole (s : ByteArray) (w : World) (k lo hi : Nat) (n l h : Int) (hn : n = (k : Nat)) (hl : l = (lo : Nat)) (hh : h = (hi : Nat)) (_hk : k ≤ 4) (t1 t2 t3 t7 t8 t9 t10 t11 t12 t13 t14 t15 t16 t17 t18 t19 t20 t21 t22 t23 t24 t25 t26 t27 t28 t29 t30 t31 t32 t33 t34 t35 t36 t37 t38 t39 t40 t41 t42 t43 t44 t45 t46 t47 t48 t49 t50 t51 t52 t53 t54 t55 t56 t57 t58 t59 t60 t61 : Value) :
    FOn w ((k, true)) 1 ⟨#[.string s, t1, t2, t3, .int .i64 n, .int .u8 l, .int .u8 h, t7, t8, t9, t10, t11, t12, t13, t14, t15, t16, t17, t18, t19, t20, t21, t22, t23, t24, t25, t26, t27, t28, t29, t30, t31, t32, t33, t34, t35, t36, t37, t38, t39, t40, t41, t42, t43, t44, t45, t46, t47, t48, t49, t50, t51, t52, t53, t54, t55, t56, t57, t58, t59, t60, t61], []⟩ := by
  subst hn hl hh
  refine on_label rfl ?_
  go_wp2_with fail
  rw [viaL_ret]
  go_ret2
  exact ⟨rfl, rfl⟩
theorem at_nothing (s : ByteArray) (w : World) (k lo hi : Nat) (n l h : Int) (hn : n = (k : Nat)) (hl : l = (lo : Nat)) (hh : h = (hi : Nat)) (_hk : k ≤ 4) (t1 t2 t3 t7 t8 t9 t10 t11 t12 t13 t14 t15 t16 t17 t18 t19 t20 t21 t22 t23 t24 t25 t26 t27 t28 t29 t30 t31 t32 t33 t34 t35 t36 t37 t38 t39 t40 t41 t42 t43 t44 t45 t46 t47 t48 t49 t50 t51 t52 t53 t54 t55 t56 t57 t58 t59 t60 t61 : Value) :
    FOn w ((0, false)) 0 ⟨#[.string s, t1, t2, t3, .int .i64 n, .int .u8 l, .int .u8 h, t7, t8, t9, t10, t11, t12, t13, t14, t15, t16, t17, t18, t19, t20, t21, t22, t23, t24, t25, t26, t27, t28, t29, t30, t31, t32, t33, t34, t35, t36, t37, t38, t39, t40, t41, t42, t43, t44, t45, t46, t47, t48, t49, t50, t51, t52, t53, t54, t55, t56, t57, t58, t59, t60, t61], []⟩ := by
  subst hn hl hh
  refine on_label rfl ?_
  go_wp2_with fail
  rw [viaL_ret]
  go_ret2
  exact ⟨rfl, rfl⟩
theorem at_part (s : ByteArray) (w : World) (k lo hi : Nat) (n l h : Int) (hn : n = (k : Nat)) (hl : l = (lo : Nat)) (hh : h = (hi : Nat)) (_hk : k ≤ 4) (t1 t2 t3 t7 t8 t9 t10 t11 t12 t13 t14 t15 t16 t17 t18 t19 t20 t21 t22 t23 t24 t25 t26 t27 t28 t29 t30 t31 t32 t33 t34 t35 t36 t37 t38 t39 t40 t41 t42 t43 t44 t45 t46 t47 t48 t49 t50 t51 t52 t53 t54 t55 t56 t57 t58 t59 t60 t61 : Value) :
    FOn w ((k, false)) 5 ⟨#[.string s, t1, t2, t3, .int .i64 n, .int .u8 l, .int .u8 h, t7, t8, t9, t10, t11, t12, t13, t14, t15, t16, t17, t18, t19, t20, t21, t22, t23, t24, t25, t26, t27, t28, t29, t30, t31, t32, t33, t34, t35, t36, t37, t38, t39, t40, t41, t42, t43, t44, t45, t46, t47, t48, t49, t50, t51, t52, t53, t54, t55, t56, t57, t58, t59, t60, t61], []⟩ := by
  subst hn hl hh
  refine on_label rfl ?_
  go_wp2_with fail
  rw [viaL_ret]
  go_ret2
  exact ⟨rfl, rfl⟩
theorem at_one (s : ByteArray) (w : World) (k lo hi : Nat) (n l h : Int) (hn : n = (k : Nat)) (hl : l = (lo : Nat)) (hh : h = (hi : Nat)) (hk : k ≤ 3) (t1 t2 t3 t7 t8 t9 t10 t11 t12 t13 t14 t15 t16 t17 t18 t19 t20 t21 t22 t23 t24 t25 t26 t27 t28 t29 t30 t31 t32 t33 t34 t35 t36 t37 t38 t39 t40 t41 t42 t43 t44 t45 t46 t47 t48 t49 t50 t51 t52 t53 t54 t55 t56 t57 t58 t59 t60 t61 : Value) :
    FOn w (goOne (tl s) k lo hi) 2 ⟨#[.string s, t1, t2, t3, .int .i64 n, .int .u8 l, .int .u8 h, t7, t8, t9, t10, t11, t12, t13, t14, t15, t16, t17, t18, t19, t20, t21, t22, t23, t24, t25, t26, t27, t28, t29, t30, t31, t32, t33, t34, t35, t36, t37, t38, t39, t40, t41, t42, t43, t44, t45, t46, t47, t48, t49, t50, t51, t52, t53, t54, t55, t56, t57, t58, t59, t60, t61], []⟩ := by
  subst hn hl hh
  unfold goOne
  by_cases hst : stands (tl s) k lo hi = true
  · rw [if_pos hst]
    refine on_label rfl ?_
    go_wp2_with (first | (apply wp_goto; change On _ _ _ _ _ _; refine at_whole s _ (k + 1) lo hi _ _ _ (by simp) rfl rfl (by omega) _ _ _ _ _ _ _ _ _ _ _ _ _ _ _ _ _ _ _ _ _ _ _ _ _ _ _ _ _ _ _ _ _ _ _ _ _ _ _ _ _ _ _ _ _ _ _ _ _ _ _ _ _ _ _ _ _ _) | (apply wp_label) | (go_at_call 76; refine (stands_lit s k lo hi _ _ _ rfl rfl rfl _).mono ?_; rintro e w1 ⟨rfl, rfl⟩))
  · rw [if_neg hst]
    have hst' : stands (tl s) k lo hi = false := by simpa using hst
    clear hst
    refine on_label rfl ?_
    go_wp2_with (first | (apply wp_goto; change On _ _ _ _ _ _; refine at_part s _ k lo hi _ _ _ rfl rfl rfl (by omega) _ _ _ _ _ _ _ _ _ _ _ _ _ _ _ _ _ _ _ _ _ _ _ _ _ _ _ _ _ _ _ _ _ _ _ _ _ _ _ _ _ _ _ _ _ _ _ _ _ _ _ _ _ _ _ _ _ _) | (apply wp_label) | (go_at_call 76; refine (stands_lit s k lo hi _ _ _ rfl rfl rfl _).mono ?_; rintro e w1 ⟨rfl, rfl⟩))
    rw [viaL_ret]
    go_ret2
    exact ⟨rfl, rfl⟩
theorem at_two (s : ByteArray) (w : World) (k lo hi : Nat) (n l h : Int) (hn : n = (k : Nat)) (hl : l = (lo : Nat)) (hh : h = (hi : Nat)) (hk : k ≤ 2) (t1 t2 t3 t7 t8 t9 t10 t11 t12 t13 t14 t15 t16 t17 t18 t19 t20 t21 t22 t23 t24 t25 t26 t27 t28 t29 t30 t31 t32 t33 t34 t35 t36 t37 t38 t39 t40 t41 t42 t43 t44 t45 t46 t47 t48 t49 t50 t51 t52 t53 t54 t55 t56 t57 t58 t59 t60 t61 : Value) :
    FOn w (goTwo (tl s) k lo hi) 3 ⟨#[.string s, t1, t2, t3, .int .i64 n, .int .u8 l, .int .u8 h, t7, t8, t9, t10, t11, t12, t13, t14, t15, t16, t17, t18, t19, t20, t21, t22, t23, t24, t25, t26, t27, t28, t29, t30, t31, t32, t33, t34, t35, t36, t37, t38, t39, t40, t41, t42, t43, t44, t45, t46, t47, t48, t49, t50, t51, t52, t53, t54, t55, t56, t57, t58, t59, t60, t61], []⟩ := by
  subst hn hl hh
  unfold goTwo
  by_cases hst : stands (tl s) k lo hi = true
  · rw [if_pos hst]
    refine on_label rfl ?_
    go_wp2_with (first | (apply wp_goto; change On _ _ _ _ _ _; refine at_one s _ (k + 1) 128 191 _ _ _ (by simp) rfl rfl (by omega) _ _ _ _ _ _ _ _ _ _ _ _ _ _ _ _ _ _ _ _ _ _ _ _ _ _ _ _ _ _ _ _ _ _ _ _ _ _ _ _ _ _ _ _ _ _ _ _ _ _ _ _ _ _ _ _ _ _) | (apply wp_label) | (go_at_call 76; refine (stands_lit s k lo hi _ _ _ rfl rfl rfl _).mono ?_; rintro e w1 ⟨rfl, rfl⟩))
  · rw [if_neg hst]
    have hst' : stands (tl s) k lo hi = false := by simpa using hst
    clear hst
    refine on_label rfl ?_
    go_wp2_with (first | (apply wp_goto; change On _ _ _ _ _ _; refine at_part s _ k lo hi _ _ _ rfl rfl rfl (by omega) _ _ _ _ _ _ _ _ _ _ _ _ _ _ _ _ _ _ _ _ _ _ _ _ _ _ _ _ _ _ _ _ _ _ _ _ _ _ _ _ _ _ _ _ _ _ _ _ _ _ _ _ _ _ _ _ _ _) | (apply wp_label) | (go_at_call 76; refine (stands_lit s k lo hi _ _ _ rfl rfl rfl _).mono ?_; rintro e w1 ⟨rfl, rfl⟩))
theorem at_three (s : ByteArray) (w : World) (k lo hi : Nat) (n l h : Int) (hn : n = (k : Nat)) (hl : l = (lo : Nat)) (hh : h = (hi : Nat)) (hk : k ≤ 1) (t1 t2 t3 t7 t8 t9 t10 t11 t12 t13 t14 t15 t16 t17 t18 t19 t20 t21 t22 t23 t24 t25 t26 t27 t28 t29 t30 t31 t32 t33 t34 t35 t36 t37 t38 t39 t40 t41 t42 t43 t44 t45 t46 t47 t48 t49 t50 t51 t52 t53 t54 t55 t56 t57 t58 t59 t60 t61 : Value) :
    FOn w (goThree (tl s) k lo hi) 4 ⟨#[.string s, t1, t2, t3, .int .i64 n, .int .u8 l, .int .u8 h, t7, t8, t9, t10, t11, t12, t13, t14, t15, t16, t17, t18, t19, t20, t21, t22, t23, t24, t25, t26, t27, t28, t29, t30, t31, t32, t33, t34, t35, t36, t37, t38, t39, t40, t41, t42, t43, t44, t45, t46, t47, t48, t49, t50, t51, t52, t53, t54, t55, t56, t57, t58, t59, t60, t61], []⟩ := by
  subst hn hl hh
  unfold goThree
  by_cases hst : stands (tl s) k lo hi = true
  · rw [if_pos hst]
    refine on_label rfl ?_
    go_wp2_with (first | (apply wp_goto; change On _ _ _ _ _ _; refine at_two s _ (k + 1) 128 191 _ _ _ (by simp) rfl rfl (by omega) _ _ _ _ _ _ _ _ _ _ _ _ _ _ _ _ _ _ _ _ _ _ _ _ _ _ _ _ _ _ _ _ _ _ _ _ _ _ _ _ _ _ _ _ _ _ _ _ _ _ _ _ _ _ _ _ _ _) | (apply wp_label) | (go_at_call 76; refine (stands_lit s k lo hi _ _ _ rfl rfl rfl _).mono ?_; rintro e w1 ⟨rfl, rfl⟩))
  · rw [if_neg hst]
    have hst' : stands (tl s) k lo hi = false := by simpa using hst
    clear hst
    refine on_label rfl ?_
    go_wp2_with (first | (apply wp_goto; change On _ _ _ _ _ _; refine at_part s _ k lo hi _ _ _ rfl rfl rfl (by omega) _ _ _ _ _ _ _ _ _ _ _ _ _ _ _ _ _ _ _ _ _ _ _ _ _ _ _ _ _ _ _ _ _ _ _ _ _ _ _ _ _ _ _ _ _ _ _ _ _ _ _ _ _ _ _ _ _ _) | (apply wp_label) | (go_at_call 76; refine (stands_lit s k lo hi _ _ _ rfl rfl rfl _).mono ?_; rintro e w1 ⟨rfl, rfl⟩))
abbrev FC (s : ByteArray) (w : World) (r : Nat × Bool) : Prop := Calls Tryd.prog 53 #[.string s] w fun e w' => e = .returned (.tuple #[.int .i64 (r.1 : Nat), .bool r.2]) ∧ w' = w
theorem front_A (s : ByteArray) (w : World) (_hs : s.size ≤ 9223372036854775807) (h0 : 0 < s.size) (h : s[0].toNat ≤ 127) : FC s w ((1, true)) := by
  have hc : (s[0]).toNat < 256 := UInt8.toNat_lt _
  have hne := not_empty s h0
  go_enter Tryd.func53, Tryd.ntmps53
  go_wp2_with fail
  apply on_enter
  change Code.wp Tryd.prog _ (viaL (On Tryd.prog (scopeIn Tryd.f53) _) _) _ _
  go_wp2_with (first | (apply wp_goto; change On _ _ _ _ _ _; refine at_whole s _ 1 128 191 _ _ _ rfl rfl rfl (by omega) _ _ _ _ _ _ _ _ _ _ _ _ _ _ _ _ _ _ _ _ _ _ _ _ _ _ _ _ _ _ _ _ _ _ _ _ _ _ _ _ _ _ _ _ _ _ _ _ _ _ _ _ _ _ _ _ _ _) | (apply wp_label))
theorem front_B (s : ByteArray) (w : World) (_hs : s.size ≤ 9223372036854775807) (h0 : 0 < s.size) (h : 127 < s[0].toNat ∧ s[0].toNat ≤ 193) : FC s w ((0, false)) := by
  have hc : (s[0]).toNat < 256 := UInt8.toNat_lt _
  have hne := not_empty s h0
  go_enter Tryd.func53, Tryd.ntmps53
  go_wp2_with fail
  apply on_enter
  change Code.wp Tryd.prog _ (viaL (On Tryd.prog (scopeIn Tryd.f53) _) _) _ _
  go_wp2_with (first | (apply wp_goto; change On _ _ _ _ _ _; refine at_nothing s _ 1 128 191 _ _ _ rfl rfl rfl (by omega) _ _ _ _ _ _ _ _ _ _ _ _ _ _ _ _ _ _ _ _ _ _ _ _ _ _ _ _ _ _ _ _ _ _ _ _ _ _ _ _ _ _ _ _ _ _ _ _ _ _ _ _ _ _ _ _ _ _) | (apply wp_label))
theorem front_C (s : ByteArray) (w : World) (_hs : s.size ≤ 9223372036854775807) (h0 : 0 < s.size) (h : 193 < s[0].toNat ∧ s[0].toNat ≤ 223) : FC s w (goOne (tl s) 1 128 191) := by
  have hc : (s[0]).toNat < 256 := UInt8.toNat_lt _
  have hne := not_empty s h0
  go_enter Tryd.func53, Tryd.ntmps53
  go_wp2_with fail
  apply on_enter
  change Code.wp Tryd.prog _ (viaL (On Tryd.prog (scopeIn Tryd.f53) _) _) _ _
  go_wp2_with (first | (apply wp_goto; change On _ _ _ _ _ _; refine at_one s _ 1 128 191 _ _ _ rfl rfl rfl (by omega) _ _ _ _ _ _ _ _ _ _ _ _ _ _ _ _ _ _ _ _ _ _ _ _ _ _ _ _ _ _ _ _ _ _ _ _ _ _ _ _ _ _ _ _ _ _ _ _ _ _ _ _ _ _ _ _ _ _) | (apply wp_label))
theorem front_D (s : ByteArray) (w : World) (_hs : s.size ≤ 9223372036854775807) (h0 : 0 < s.size) (h : 223 < s[0].toNat ∧ s[0].toNat < 225) : FC s w (goTwo (tl s) 1 160 191) := by
  have hc : (s[0]).toNat < 256 := UInt8.toNat_lt _
  have hne := not_empty s h0
  go_enter Tryd.func53, Tryd.ntmps53
  go_wp2_with fail
  apply on_enter
  change Code.wp Tryd.prog _ (viaL (On Tryd.prog (scopeIn Tryd.f53) _) _) _ _
  go_wp2_with (first | (apply wp_goto; change On _ _ _ _ _ _; refine at_two s _ 1 160 191 _ _ _ rfl rfl rfl (by omega) _ _ _ _ _ _ _ _ _ _ _ _ _ _ _ _ _ _ _ _ _ _ _ _ _ _ _ _ _ _ _ _ _ _ _ _ _ _ _ _ _ _ _ _ _ _ _ _ _ _ _ _ _ _ _ _ _ _) | (apply wp_label))
theorem front_E (s : ByteArray) (w : World) (_hs : s.size ≤ 9223372036854775807) (h0 : 0 < s.size) (h : 236 < s[0].toNat ∧ s[0].toNat < 238) : FC s w (goTwo (tl s) 1 128 159) := by
  have hc : (s[0]).toNat < 256 := UInt8.toNat_lt _
  have hne := not_empty s h0
  go_enter Tryd.func53, Tryd.ntmps53
  go_wp2_with fail
  apply on_enter
  change Code.wp Tryd.prog _ (viaL (On Tryd.prog (scopeIn Tryd.f53) _) _) _ _
  go_wp2_with (first | (apply wp_goto; change On _ _ _ _ _ _; refine at_two s _ 1 128 159 _ _ _ rfl rfl rfl (by omega) _ _ _ _ _ _ _ _ _ _ _ _ _ _ _ _ _ _ _ _ _ _ _ _ _ _ _ _ _ _ _ _ _ _ _ _ _ _ _ _ _ _ _ _ _ _ _ _ _ _ _ _ _ _ _ _ _ _) | (apply wp_label))
theorem front_F (s : ByteArray) (w : World) (_hs : s.size ≤ 9223372036854775807) (h0 : 0 < s.size) (h : 224 < s[0].toNat ∧ s[0].toNat < 237 ∨ 237 < s[0].toNat ∧ s[0].toNat < 240) : FC s w (goTwo (tl s) 1 128 191) := by
  have hc : (s[0]).toNat < 256 := UInt8.toNat_lt _
  have hne := not_empty s h0
  go_enter Tryd.func53, Tryd.ntmps53
  go_wp2_with fail
  apply on_enter
  change Code.wp Tryd.prog _ (viaL (On Tryd.prog (scopeIn Tryd.f53) _) _) _ _
  go_wp2_with (first | (apply wp_goto; change On _ _ _ _ _ _; refine at_two s _ 1 128 191 _ _ _ rfl rfl rfl (by omega) _ _ _ _ _ _ _ _ _ _ _ _ _ _ _ _ _ _ _ _ _ _ _ _ _ _ _ _ _ _ _ _ _ _ _ _ _ _ _ _ _ _ _ _ _ _ _ _ _ _ _ _ _ _ _ _ _ _) | (apply wp_label))
theorem front_G (s : ByteArray) (w : World) (_hs : s.size ≤ 9223372036854775807) (h0 : 0 < s.size) (h : 239 < s[0].toNat ∧ s[0].toNat < 241) : FC s w (goThree (tl s) 1 144 191) := by
  have hc : (s[0]).toNat < 256 := UInt8.toNat_lt _
  have hne := not_empty s h0
  go_enter Tryd.func53, Tryd.ntmps53
  go_wp2_with fail
  apply on_enter
  change Code.wp Tryd.prog _ (viaL (On Tryd.prog (scopeIn Tryd.f53) _) _) _ _
  go_wp2_with (first | (apply wp_goto; change On _ _ _ _ _ _; refine at_three s _ 1 144 191 _ _ _ rfl rfl rfl (by omega) _ _ _ _ _ _ _ _ _ _ _ _ _ _ _ _ _ _ _ _ _ _ _ _ _ _ _ _ _ _ _ _ _ _ _ _ _ _ _ _ _ _ _ _ _ _ _ _ _ _ _ _ _ _ _ _ _ _) | (apply wp_label))
theorem front_H (s : ByteArray) (w : World) (_hs : s.size ≤ 9223372036854775807) (h0 : 0 < s.size) (h : 240 < s[0].toNat ∧ s[0].toNat < 244) : FC s w (goThree (tl s) 1 128 191) := by
  have hc : (s[0]).toNat < 256 := UInt8.toNat_lt _
  have hne := not_empty s h0
  go_enter Tryd.func53, Tryd.ntmps53
  go_wp2_with fail
  apply on_enter
  change Code.wp Tryd.prog _ (viaL (On Tryd.prog (scopeIn Tryd.f53) _) _) _ _
  go_wp2_with (first | (apply wp_goto; change On _ _ _ _ _ _; refine at_three s _ 1 128 191 _ _ _ rfl rfl rfl (by omega) _ _ _ _ _ _ _ _ _ _ _ _ _ _ _ _ _ _ _ _ _ _ _ _ _ _ _ _ _ _ _ _ _ _ _ _ _ _ _ _ _ _ _ _ _ _ _ _ _ _ _ _ _ _ _ _ _ _) | (apply wp_label))
theorem front_I (s : ByteArray) (w : World) (_hs : s.size ≤ 9223372036854775807) (h0 : 0 < s.size) (h : 243 < s[0].toNat ∧ s[0].toNat < 245) : FC s w (goThree (tl s) 1 128 143) := by
  have hc : (s[0]).toNat < 256 := UInt8.toNat_lt _
  have hne := not_empty s h0
  go_enter Tryd.func53, Tryd.ntmps53
  go_wp2_with fail
  apply on_enter
  change Code.wp Tryd.prog _ (viaL (On Tryd.prog (scopeIn Tryd.f53) _) _) _ _
  go_wp2_with (first | (apply wp_goto; change On _ _ _ _ _ _; refine at_three s _ 1 128 143 _ _ _ rfl rfl rfl (by omega) _ _ _ _ _ _ _ _ _ _ _ _ _ _ _ _ _ _ _ _ _ _ _ _ _ _ _ _ _ _ _ _ _ _ _ _ _ _ _ _ _ _ _ _ _ _ _ _ _ _ _ _ _ _ _ _ _ _) | (apply wp_label))
theorem front_J (s : ByteArray) (w : World) (_hs : s.size ≤ 9223372036854775807) (h0 : 0 < s.size) (h : 244 < s[0].toNat) : FC s w ((0, false)) := by
  have hc : (s[0]).toNat < 256 := UInt8.toNat_lt _
  have hne := not_empty s h0
  go_enter Tryd.func53, Tryd.ntmps53
  go_wp2_with fail
  apply on_enter
  change Code.wp Tryd.prog _ (viaL (On Tryd.prog (scopeIn Tryd.f53) _) _) _ _
  go_wp2_with (first | (apply wp_goto; change On _ _ _ _ _ _; refine at_nothing s _ 1 128 191 _ _ _ rfl rfl rfl (by omega) _ _ _ _ _ _ _ _ _ _ _ _ _ _ _ _ _ _ _ _ _ _ _ _ _ _ _ _ _ _ _ _ _ _ _ _ _ _ _ _ _ _ _ _ _ _ _ _ _ _ _ _ _ _ _ _ _ _) | (apply wp_label))
  rw [viaL_ret]
  go_ret2
  exact ⟨rfl, rfl⟩
theorem is_empty (s : ByteArray) (h : s.size = 0) : s.toList.isEmpty = true := by
  rw [ByteArray.toList_eq]
  have : s.data.toList.length = 0 := by simpa using h
  rw [List.length_eq_zero_iff.1 this]
  rfl
theorem front_Z (s : ByteArray) (w : World) (h0 : s.size = 0) : FC s w (0, false) := by
  have hne := is_empty s h0
  go_enter Tryd.func53, Tryd.ntmps53
  go_wp2_with fail
  apply on_enter
  change Code.wp Tryd.prog _ (viaL (On Tryd.prog (scopeIn Tryd.f53) _) _) _ _
  go_wp2_with (first | (apply wp_goto; change On _ _ _ _ _ _; refine at_nothing s _ 1 128 191 _ _ _ rfl rfl rfl (by omega) _ _ _ _ _ _ _ _ _ _ _ _ _ _ _ _ _ _ _ _ _ _ _ _ _ _ _ _ _ _ _ _ _ _ _ _ _ _ _ _ _ _ _ _ _ _ _ _ _ _ _ _ _ _ _ _ _ _) | (apply wp_label))
theorem front_any (s : ByteArray) (w : World) (hs : s.size ≤ 9223372036854775807) : FC s w (front (tl s)) := by
  unfold front
  rw [tl_len]
  by_cases h0 : s.size = 0
  · rw [if_pos h0]
    exact front_Z s w h0
  · rw [if_neg h0]
    have h0' : 0 < s.size := by omega
    rw [bt_zero s h0']
    by_cases hA : s[0].toNat ≤ 127
    · rw [if_pos hA]; exact front_A s w hs h0' hA
    · rw [if_neg hA]
      by_cases hB : s[0].toNat ≤ 193
      · rw [if_pos hB]; exact front_B s w hs h0' ⟨by omega, hB⟩
      · rw [if_neg hB]
        by_cases hC : s[0].toNat ≤ 223
        · rw [if_pos hC]; exact front_C s w hs h0' ⟨by omega, hC⟩
        · rw [if_neg hC]
          by_cases hD : s[0].toNat = 224
          · rw [if_pos hD]; exact front_D s w hs h0' (by omega)
          · rw [if_neg hD]
            by_cases hE : s[0].toNat = 237
            · rw [if_pos hE]; exact front_E s w hs h0' (by omega)
            · rw [if_neg hE]
              by_cases hF : s[0].toNat ≤ 239
              · rw [if_pos hF]; exact front_F s w hs h0' (by omega)
              · rw [if_neg hF]
                by_cases hG : s[0].toNat = 240
                · rw [if_pos hG]; exact front_G s w hs h0' (by omega)
                · rw [if_neg hG]
                  by_cases hH : s[0].toNat ≤ 243
                  · rw [if_pos hH]; exact front_H s w hs h0' (by omega)
                  · rw [if_neg hH]
                    by_cases hI : s[0].toNat = 244
                    · rw [if_pos hI]; exact front_I s w hs h0' (by omega)
                    · rw [if_neg hI]; exact front_J s w hs h0' (by omega)
end Go.Proofs.YtonbfcpbgkpbaaaDoor
end
section
/- Items: what they are; utf.badByte, utf.sequence: their contracts. -/
namespace Go.Proofs.YtonbfcpbgkpbaaaDoor
open Go.RowKit
/-- An item. -/
structure It where
  frm : Nat
  bytes : Nat
  rune : Nat
  bad : Bool
/-- Its value. -/
def itv (x : It) : Value := .agg #[.int .i64 (x.frm : Nat), .int .i64 (x.bytes : Nat), .int .i32 (x.rune : Nat), .bool x.bad]
theorem badByte_any (k : Nat) (w : World) : Calls Tryd.prog 52 #[.int .i64 (k : Nat)] w fun e w' => e = .returned (itv ⟨k, 1, 65533, true⟩) ∧ Below w.heap.size w w' := by
  go_enter Tryd.func52, Tryd.ntmps52
  go_wp2_with fail
  exact bodyPost_ret (v := itv ⟨k, 1, 65533, true⟩) (by simp [results, Tryd.results52, go_sem, itv]) rfl ⟨rfl, (Below.refl _ _).alloc (Nat.le_refl _) _⟩
theorem runesFrom_size (s : ByteArray) (b : Nat) : ∀ (i : Nat) (acc : Array Value), acc.size ≤ (Conv.runesFrom s b i acc).size := by
  induction b with
  | zero => intro i acc; simp [Conv.runesFrom]
  | succ b ih =>
    intro i acc
    unfold Conv.runesFrom
    split
    · exact Nat.le_trans (by simp) (ih _ _)
    · exact Nat.le_refl _
theorem runesFrom_get (s : ByteArray) (b : Nat) : ∀ (i : Nat) (acc : Array Value) (j : Nat), j < acc.size → (Conv.runesFrom s b i acc)[j]? = acc[j]? := by
  induction b with
  | zero => intro i acc j _; simp [Conv.runesFrom]
  | succ b ih =>
    intro i acc j hj
    unfold Conv.runesFrom
    split
    · rw [ih _ _ j (by simp; omega)]
      simp [Array.getElem?_push, show j ≠ acc.size by omega]
    · rfl
theorem runesFrom_first (s : ByteArray) (h : 0 < s.size) : (Conv.runesFrom s s.size 0 #[])[0]? = some (.int .i32 ((Utf8.decode s 0).1 : Nat)) := by
  obtain ⟨n, hn⟩ : ∃ n, s.size = n + 1 := ⟨s.size - 1, by omega⟩
  rw [hn]
  unfold Conv.runesFrom
  rw [if_pos (by omega)]
  rw [runesFrom_get _ _ _ _ _ (by simp)]
  rfl
theorem runesFrom_most (s : ByteArray) (b : Nat) : ∀ (i : Nat) (acc : Array Value), (Conv.runesFrom s b i acc).size ≤ acc.size + b := by
  induction b with
  | zero => intro i acc; simp [Conv.runesFrom]
  | succ b ih =>
    intro i acc
    unfold Conv.runesFrom
    split
    · have := ih (i + (Utf8.decode s i).2) (acc.push (.int .i32 (Int.ofNat (Utf8.decode s i).1)))
      simp at this ⊢
      omega
    · omega
theorem sequence_any (s : ByteArray) (k : Nat) (h0 : 0 < s.size) (h4 : s.size ≤ 4) (w : World) :
    Calls Tryd.prog 54 #[.string s, .int .i64 (k : Nat)] w fun e w' => e = .returned (itv ⟨k, s.size, (Utf8.decode s 0).1, false⟩) ∧ Below w.heap.size w w' := by
  have hm := runesFrom_most s s.size 0 #[]
  simp only [Array.size_empty] at hm
  have hcv := fun wx : World => run_runes_of_string (P := Tryd.prog) wx 9 121 21 s Tryd.underlying9 Tryd.underlying121 Tryd.underlying21 (by omega)
  have h1 := runesFrom_first s h0
  have h2 : 0 < (Conv.runesFrom s s.size 0 #[]).size := by
    rcases Nat.eq_zero_or_pos (Conv.runesFrom s s.size 0 #[]).size with h | h
    · rw [Array.getElem?_eq_none (by omega)] at h1; cases h1
    · exact h
  obtain ⟨L, hL⟩ : ∃ L, L = Conv.runesFrom s s.size 0 #[] := ⟨_, rfl⟩
  rw [← hL] at hcv h1 h2
  clear hL hm
  obtain ⟨r, hr⟩ : ∃ r, r = (Utf8.decode s 0).1 := ⟨_, rfl⟩
  rw [← hr] at h1 ⊢
  clear hr
  have h1' : ∀ n, (L ++ Array.replicate n (Value.int .i32 0))[0]? = some (.int .i32 (r : Nat)) := fun n => by rw [Array.getElem?_append_left h2, h1]
  clear h1
  go_enter Tryd.func54, Tryd.ntmps54
  go_wp2_with fail
  exact bodyPost_ret (v := itv ⟨k, s.size, r, false⟩) (by simp [results, Tryd.results54, go_sem, itv]) rfl ⟨rfl, (((Below.refl _ _).alloc (Nat.le_refl _) _).alloc (by simp) _).drew⟩
end Go.Proofs.YtonbfcpbgkpbaaaDoor
end
section
/- What the run-time reads at a place of a text: by utf's own front. -/
namespace Go.Proofs.YtonbfcpbgkpbaaaDoor
open Go.RowKit
theorem tl_ext (s : ByteArray) (a b : Nat) : tl (s.extract a b) = ((tl s).drop a).take (b - a) := by
  simp [tl, List.take_drop]
/-- The rune of a whole sequence. -/
def rn (l : List UInt8) : Nat :=
  if (front l).1 = 1 then bt l 0 else
  if (front l).1 = 2 then bt l 0 % 32 * 64 + bt l 1 % 64 else
  if (front l).1 = 3 then bt l 0 % 16 * 4096 + bt l 1 % 64 * 64 + bt l 2 % 64 else
  bt l 0 % 8 * 262144 + bt l 1 % 64 * 4096 + bt l 2 % 64 * 64 + bt l 3 % 64
theorem get_bt (s : ByteArray) (i k : Nat) : (s.get! (i + k)).toNat = bt ((tl s).drop i) k := by
  rw [bt_drop]
  unfold bt
  congr 1
  show s.data[i + k]! = _
  rw [getElem!_def, List.getD_eq_getElem?_getD]
  simp only [tl, Array.getElem?_toList]
  cases s.data[i + k]? <;> rfl
theorem size_lt (s : ByteArray) (i k : Nat) : (i + k < s.size) ↔ k < ((tl s).drop i).length := by
  rw [List.length_drop, tl_len]; omega
/-- As numbers. -/
def dec4 (n b0 b1 b2 b3 : Nat) : Nat × Nat :=
  if b0 < 128 then (b0, 1) else
  if b0 / 32 = 6 ∧ 1 < n ∧ b1 / 64 = 2 then (if 128 ≤ b0 % 32 * 64 + b1 % 64 then (b0 % 32 * 64 + b1 % 64, 2) else (65533, 1)) else
  if b0 / 16 = 14 ∧ (1 < n ∧ b1 / 64 = 2) ∧ 2 < n ∧ b2 / 64 = 2 then
    (if 2048 ≤ b0 % 16 * 4096 + b1 % 64 * 64 + b2 % 64 ∧ (b0 % 16 * 4096 + b1 % 64 * 64 + b2 % 64 < 55296 ∨ 57344 ≤ b0 % 16 * 4096 + b1 % 64 * 64 + b2 % 64 ∧ b0 % 16 * 4096 + b1 % 64 * 64 + b2 % 64 ≤ 1114111) then (b0 % 16 * 4096 + b1 % 64 * 64 + b2 % 64, 3) else (65533, 1)) else
  if b0 / 8 = 30 ∧ (1 < n ∧ b1 / 64 = 2) ∧ (2 < n ∧ b2 / 64 = 2) ∧ 3 < n ∧ b3 / 64 = 2 then
    (if 65536 ≤ b0 % 8 * 262144 + b1 % 64 * 4096 + b2 % 64 * 64 + b3 % 64 ∧ (b0 % 8 * 262144 + b1 % 64 * 4096 + b2 % 64 * 64 + b3 % 64 < 55296 ∨ 57344 ≤ b0 % 8 * 262144 + b1 % 64 * 4096 + b2 % 64 * 64 + b3 % 64 ∧ b0 % 8 * 262144 + b1 % 64 * 4096 + b2 % 64 * 64 + b3 % 64 ≤ 1114111) then (b0 % 8 * 262144 + b1 % 64 * 4096 + b2 % 64 * 64 + b3 % 64, 4) else (65533, 1)) else
  (65533, 1)
theorem decode_nums (s : ByteArray) (i : Nat) (_h : ((tl s).drop i) ≠ []) : Utf8.decode s i = dec4 ((tl s).drop i).length (bt ((tl s).drop i) 0) (bt ((tl s).drop i) 1) (bt ((tl s).drop i) 2) (bt ((tl s).drop i) 3) := by
  unfold Utf8.decode dec4
  simp only [get_bt, size_lt, Utf8.runeError, Utf8.valid]
  generalize bt ((tl s).drop i) 0 = b0
  generalize bt ((tl s).drop i) 1 = b1
  generalize bt ((tl s).drop i) 2 = b2
  generalize bt ((tl s).drop i) 3 = b3
  generalize ((tl s).drop i).length = n
  have e : ∀ x : Nat, (((0 : Int) ≤ (x : Int)) ∧ (x : Int) < 55296) ↔ x < 55296 := fun x => by omega
  simp only [Bool.and_eq_true, Bool.or_eq_true, decide_eq_true_eq, beq_iff_eq, ge_iff_le, and_assoc]
  repeat' split
  all_goals first | rfl | (exfalso; omega)
theorem dec4_front (l : List UInt8) (h : l ≠ []) : dec4 l.length (bt l 0) (bt l 1) (bt l 2) (bt l 3) = if (front l).2 = true then (rn l, (front l).1) else (65533, 1) := by
  have h0 := List.length_pos_iff.2 h
  have l0 := bt_lt l 0
  have l1 := bt_lt l 1
  have l2 := bt_lt l 2
  have l3 := bt_lt l 3
  have hs := front_spec l
  unfold rn
  generalize bt l 0 = b0 at *
  generalize bt l 1 = b1 at *
  generalize bt l 2 = b2 at *
  generalize bt l 3 = b3 at *
  generalize l.length = n at *
  clear h
  unfold dec4
  rcases hs with ⟨e, g⟩ | ⟨e, g⟩ | ⟨e, g⟩ | ⟨e, g⟩ | ⟨e, g⟩ | ⟨e, g⟩ | ⟨e, g⟩ | ⟨e, g⟩ <;> rw [e] <;> clear e <;> simp only [Bool.false_eq_true, if_false, if_true, Nat.reduceEqDiff]
  all_goals
    repeat' split
    all_goals first | (exfalso; omega) | rfl
/-- WHAT IS READ. -/
theorem decode_front (s : ByteArray) (i : Nat) (h : ((tl s).drop i) ≠ []) : Utf8.decode s i = if (front ((tl s).drop i)).2 = true then (rn ((tl s).drop i), (front ((tl s).drop i)).1) else (65533, 1) := by
  rw [decode_nums s i h, dec4_front _ h]
theorem rn_take (l : List UInt8) (h : (front l).2 = true) : rn (l.take (front l).1) = rn l := by
  have hf := front_whole_take l h
  have hle := front_le l
  have hb : ∀ k, k < (front l).1 → bt (l.take (front l).1) k = bt l k := fun k hk => by
    unfold bt
    rw [List.getD_eq_getElem?_getD, List.getD_eq_getElem?_getD, List.getElem?_take, if_pos hk]
  have h1 := hle.2.2.1 h
  unfold rn
  rw [hf]
  have c : (front l).1 = 1 ∨ (front l).1 = 2 ∨ (front l).1 = 3 ∨ (front l).1 = 4 := by omega
  rcases c with c | c | c | c <;> rw [c] at hb ⊢ <;> simp [hb]
/-- The sequence's item. -/
theorem decode_whole (s : ByteArray) (a n : Nat) (h : (front ((tl s).drop a)).2 = true) (hn : n = (front ((tl s).drop a)).1) : Utf8.decode (s.extract a (a + n)) 0 = (rn ((tl s).drop a), n) := by
  have he : tl (s.extract a (a + n)) = ((tl s).drop a).take n := by rw [tl_ext, show a + n - a = n by omega]
  have h1 := (front_le ((tl s).drop a)).2.2.1 h
  have hl := (front_le ((tl s).drop a)).1
  have hne : (tl (s.extract a (a + n))).drop 0 ≠ [] := by
    rw [he, List.drop_zero]
    intro hh
    have := congrArg List.length hh
    rw [List.length_take, List.length_nil] at this
    omega
  rw [decode_front _ _ hne, he, List.drop_zero, hn, front_whole_take _ h, if_pos h, rn_take _ h]
end Go.Proofs.YtonbfcpbgkpbaaaDoor
end
section
/- The items of a text: what they are. -/
namespace Go.Proofs.YtonbfcpbgkpbaaaDoor
open Go.RowKit
/-- The first item. -/
def headIt (k : Nat) (l : List UInt8) : It := if (front l).2 = true then ⟨k, (front l).1, rn l, false⟩ else ⟨k, 1, 65533, true⟩
theorem headIt_bytes (k : Nat) (l : List UInt8) : (headIt k l).bytes = wid l := by
  unfold headIt wid; split <;> rfl
theorem headIt_frm (k : Nat) (l : List UInt8) : (headIt k l).frm = k := by
  unfold headIt; split <;> rfl
def itemsF : Nat → Nat → List UInt8 → List It
  | 0, _, _ => []
  | f + 1, k, l => if l = [] then [] else headIt k l :: itemsF f (k + wid l) (l.drop (wid l))
theorem itemsF_any (n : Nat) : ∀ (k : Nat) (l : List UInt8) (f g : Nat), l.length ≤ n → l.length ≤ f → l.length ≤ g → itemsF f k l = itemsF g k l := by
  induction n with
  | zero =>
    intro k l f g h _ _
    have h0 : l = [] := List.length_eq_zero_iff.1 (by omega)
    subst h0
    cases f <;> cases g <;> simp [itemsF]
  | succ n ih =>
    intro k l f g h hf hg
    by_cases h0 : l = []
    · subst h0
      cases f <;> cases g <;> simp [itemsF]
    · have h1 := List.length_pos_iff.2 h0
      have h2 := wid_pos l
      obtain ⟨f, rfl⟩ : ∃ k, f = k + 1 := ⟨f - 1, by omega⟩
      obtain ⟨g, rfl⟩ : ∃ k, g = k + 1 := ⟨g - 1, by omega⟩
      unfold itemsF
      rw [if_neg h0, if_neg h0, ih _ (l.drop (wid l)) f g (by simp; omega) (by simp; omega) (by simp; omega)]
/-- The items of the bytes l, of which the first one is byte k. -/
def items (k : Nat) (l : List UInt8) : List It := itemsF l.length k l
theorem items_nil (k : Nat) : items k [] = [] := rfl
theorem items_cons (k : Nat) (l : List UInt8) (h : l ≠ []) : items k l = headIt k l :: items (k + wid l) (l.drop (wid l)) := by
  have h1 := List.length_pos_iff.2 h
  have h2 := wid_pos l
  unfold items
  obtain ⟨n, hn⟩ : ∃ n, l.length = n + 1 := ⟨l.length - 1, by omega⟩
  rw [hn, itemsF, if_neg h, itemsF_any _ _ (l.drop (wid l)) n _ (Nat.le_refl _) (by simp; omega) (Nat.le_refl _)]
/-- By what is left. -/
theorem bytes_ind {p : List UInt8 → Prop} (hnil : p []) (hcons : ∀ l, l ≠ [] → (∀ m, m.length < l.length → p m) → p l) (l : List UInt8) : p l := by
  obtain ⟨n, hn⟩ : ∃ n, n = l.length := ⟨_, rfl⟩
  induction n using Nat.strongRecOn generalizing l with
  | ind n ih =>
    by_cases h : l = []
    · subst h; exact hnil
    · exact hcons l h fun m hm => ih m.length (by omega) m rfl
theorem drop_wid_lt (l : List UInt8) (h : l ≠ []) : (l.drop (wid l)).length < l.length := by
  have h1 := List.length_pos_iff.2 h
  have h2 := wid_pos l
  simp; omega
theorem items_length (l : List UInt8) : ∀ k, (items k l).length ≤ l.length := by
  refine bytes_ind (p := fun l => ∀ k, (items k l).length ≤ l.length) (fun k => by simp [items_nil]) (fun l h ih k => ?_) l
  have h1 := drop_wid_lt l h
  have h2 := ih _ h1 (k + wid l)
  rw [items_cons k l h]
  simp only [List.length_cons]
  omega
end Go.Proofs.YtonbfcpbgkpbaaaDoor
end
section
/- Tails and replaced texts: the mathematics. -/
namespace Go.Proofs.YtonbfcpbgkpbaaaDoor
open Go.RowKit
/-- What Tail answers, from length 4 - f on. -/
def tf (l : List UInt8) : Nat → Nat
  | 0 => 0
  | f + 1 => if 3 - f ≤ l.length then (if front (l.drop (l.length - (3 - f))) = (3 - f, false) then 3 - f else tf l f) else 0
def tailL (l : List UInt8) : Nat := tf l 3
theorem tl_extract (s : ByteArray) (a b : Nat) : tl (s.extract a b) = ((tl s).drop a).take (b - a) := by
  simp [tl, List.take_drop]
/-- How many bytes are replaced or taken at once. -/
def stepL (l : List UInt8) : Nat := max (front l).1 1
theorem stepL_pos (l : List UInt8) : 1 ≤ stepL l := Nat.le_max_right _ _
theorem stepL_le (l : List UInt8) (h : l ≠ []) : stepL l ≤ l.length := by
  have := (front_le l).1
  have h0 := List.length_pos_iff.2 h
  unfold stepL; omega
/-- What Replace makes of a text, in so many steps. -/
def replF : Nat → List UInt8 → List UInt8
  | 0, _ => []
  | f + 1, l => if l = [] then [] else (if (front l).2 = true then l.take (stepL l) else [239, 191, 189]) ++ replF f (l.drop (stepL l))
theorem replF_any (n : Nat) : ∀ (l : List UInt8) (f g : Nat), l.length ≤ n → l.length ≤ f → l.length ≤ g → replF f l = replF g l := by
  induction n with
  | zero =>
    intro l f g h _ _
    have h0 : l = [] := List.length_eq_zero_iff.1 (by omega)
    subst h0
    cases f <;> cases g <;> simp [replF]
  | succ n ih =>
    intro l f g h hf hg
    by_cases h0 : l = []
    · subst h0
      cases f <;> cases g <;> simp [replF]
    · have h1 := List.length_pos_iff.2 h0
      have h2 := stepL_pos l
      obtain ⟨f, rfl⟩ : ∃ k, f = k + 1 := ⟨f - 1, by omega⟩
      obtain ⟨g, rfl⟩ : ∃ k, g = k + 1 := ⟨g - 1, by omega⟩
      unfold replF
      rw [if_neg h0, if_neg h0, ih (l.drop (stepL l)) f g (by simp; omega) (by simp; omega) (by simp; omega)]
/-- What Replace makes of a text. -/
def replL (l : List UInt8) : List UInt8 := replF l.length l
theorem replL_nil : replL [] = [] := rfl
theorem replL_cons (l : List UInt8) (h : l ≠ []) : replL l = (if (front l).2 = true then l.take (stepL l) else [239, 191, 189]) ++ replL (l.drop (stepL l)) := by
  have h1 := List.length_pos_iff.2 h
  have h2 := stepL_pos l
  unfold replL
  obtain ⟨k, hk⟩ : ∃ k, l.length = k + 1 := ⟨l.length - 1, by omega⟩
  rw [hk, replF, if_neg h, replF_any _ (l.drop (stepL l)) k _ (Nat.le_refl _) (by simp; omega) (Nat.le_refl _)]
theorem tl_first (s : ByteArray) (n : Nat) : tl (s.extract 0 n) = (tl s).take n := by
  rw [tl_extract]; simp
theorem tl_rest (s : ByteArray) (n : Nat) : tl (s.extract n s.size) = (tl s).drop n := by
  rw [tl_extract, List.take_of_length_le (by simp)]
end Go.Proofs.YtonbfcpbgkpbaaaDoor
end
section
/- utf.Items: its iterator's contract. -/
namespace Go.Proofs.YtonbfcpbgkpbaaaDoor
open Go.RowKit Go.Shelf
open Go.Joins
attribute [local go_sem] Oper.semAt_some
/-- What a round keeps: what lay below, and each block that is one item. -/
def KpI (n₀ : Nat) (A B : World) : Prop := Below n₀ A B ∧ ∀ (k : Nat) (c : Array Value), A.heap[k]? = some (.cells c 102 (0, 0)) → c.size = 4 → B.heap[k]? = A.heap[k]?
theorem cell_alloc_l {W : World} {a : Addr} {v : Value} (o : Obj) (h : W.cell? a = some v) : (W.alloc o).cell? a = some v := cell_kept h (World.grownBy_alloc W o none) (fun r e => by cases e)
theorem KpI.refl (n₀ : Nat) (A : World) : KpI n₀ A A := ⟨Below.refl _ _, fun _ _ _ _ => rfl⟩
theorem KpI.trans {n₀ : Nat} {A B C : World} (h : KpI n₀ A B) (k : KpI n₀ B C) : KpI n₀ A C :=
  ⟨h.1.trans k.1, fun i c hi hc => by
    have h1 := h.2 i c hi hc
    rw [← h1]
    exact k.2 i c (by rw [h1]; exact hi) hc⟩
theorem KpI.of_below {n₀ : Nat} {A B : World} (h : Below A.heap.size A B) (hn : n₀ ≤ A.heap.size) : KpI n₀ A B :=
  ⟨h.mono hn, fun k _ hk _ => h.block k (Array.getElem?_eq_some_iff.1 hk).1⟩
theorem KpI.putObj {n₀ : Nat} {w : World} (hn : n₀ ≤ w.heap.size) (W : World) (l : Nat) (o o' : Obj) (hl : w.heap.size ≤ l) (h : W.heap[l]? = some o) (ho : o.isCells = false) (hw : o.isWalk = false) : KpI n₀ W (W.putObj l o') :=
  ⟨belowK_b hn W l o o' hl h ho hw, fun k c hk _ => by
    have hne : k ≠ l := fun e => by subst e; rw [h] at hk; cases hk; simp [Obj.isCells] at ho
    exact World.putObj_heap_other hne⟩
/-- What the iterator asks of a round: its text's box and each block that is one item lie as they lay. -/
def KpJ (Bs : Nat) (A B : World) : Prop := A.heap.size ≤ B.heap.size ∧ B.heap[Bs]? = A.heap[Bs]? ∧ ∀ (k : Nat) (c : Array Value), A.heap[k]? = some (.cells c 102 (0, 0)) → c.size = 4 → B.heap[k]? = A.heap[k]?
theorem KpJ.refl (Bs : Nat) (A : World) : KpJ Bs A A := ⟨Nat.le_refl _, rfl, fun _ _ _ _ => rfl⟩
theorem KpJ.trans {Bs : Nat} {A B C : World} (h : KpJ Bs A B) (k : KpJ Bs B C) : KpJ Bs A C :=
  ⟨Nat.le_trans h.1 k.1, k.2.1.trans h.2.1, fun i c hi hc => by
    have h1 := h.2.2 i c hi hc
    rw [← h1]
    exact k.2.2 i c (by rw [h1]; exact hi) hc⟩
theorem KpI.toJ {n₀ Bs : Nat} {A B : World} (h : KpI n₀ A B) (hb : Bs < n₀) : KpJ Bs A B := ⟨h.1.size, h.1.block Bs hb, h.2⟩
theorem KpJ.putObj {Bs : Nat} {w : World} (hn : Bs < w.heap.size) (W : World) (l : Nat) (o o' : Obj) (hl : w.heap.size ≤ l) (h : W.heap[l]? = some o) (ho : o.isCells = false) (_hw : o.isWalk = false) : KpJ Bs W (W.putObj l o') :=
  ⟨by simp, World.putObj_heap_other (by omega), fun k c hk _ => by
    have hne : k ≠ l := fun e => by subst e; rw [h] at hk; cases hk; simp [Obj.isCells] at ho
    exact World.putObj_heap_other hne⟩
set_option maxRecDepth 100000 in
set_option maxHeartbeats 2000000 in
theorem items1_in (n : Nat) (hn : 1 ≤ n) (l Bs N : Nat) (s : ByteArray) (hs : s.size ≤ 9223372036854775807) (J Jx : List It → World → Prop)
    (hN : (items 0 (tl s)).length ≤ N)
    (hJ : ∀ pre A B, J pre A → Below A.heap.size A B → J pre B)
    (hY : ∀ pre x W, J pre W → pre.length < N → YieldAt Fence.wide (n - 1) Tryd.prog l #[itv x] W fun e W' =>
      (e = .returned (.bool true) ∧ J (pre ++ [x]) W' ∧ KpJ Bs W W') ∨ (e = .returned (.bool false) ∧ Jx (pre ++ [x]) W'))
    (W : World) (hBs : W.cell? ⟨Bs, 0, none⟩ = some (.string s)) (h0 : J [] W) :
    CallsIn Fence.wide n Tryd.prog 51 #[.func (.yield l) #[] #[], .pointer (some ⟨Bs, 0, none⟩)] W fun e W' => (∃ v, e = .returned v) ∧
      ((∃ ys, ys = items 0 (tl s) ∧ J ys W') ∨ (∃ pre, pre <+: items 0 (tl s) ∧ Jx pre W')) := by
  refine callsIn_of_wp Tryd.func51 rfl trivial ?_ rfl
  simp only [Tryd.ntmps51, List.size_toArray, List.length_cons, List.length_nil, Nat.reduceAdd, Nat.reduceSub, Array.replicate_succ, Array.replicate_zero, List.push_toArray, List.append_toArray, List.nil_append, List.cons_append]
  gi_wp2
  gi_loopw [3] (fun i wr => ∃ (k : Nat) (pre : List It), k ≤ s.size ∧ i = .int .i64 k ∧ items 0 (tl s) = pre ++ items k ((tl s).drop k) ∧ J pre wr ∧ wr.heap[Bs]? = W.heap[Bs]?) (fun i _ => s.size - (intOf i).toNat)
  case atStart => exact ⟨0, [], Nat.zero_le _, rfl, rfl, h0, rfl⟩
  case round =>
    obtain ⟨k, pre, hk, rfl, he, hJs, hnx⟩ := hrel
    have hcx : wr.cell? ⟨Bs, 0, none⟩ = some (.string s) := (World.cell?_of_block (w := W) (a := ⟨Bs, 0, none⟩) hnx).trans hBs
    have hBlt : Bs < wr.heap.size := World.block_lt_of_cell? wr _ hcx
    have HX : Hid (wr.heap[Bs]? = W.heap[Bs]?) := hnx
    clear hnx
    by_cases hlt : k < s.size
    · have hne : (tl s).drop k ≠ [] := fun h => by have := congrArg List.length h; simp at this; omega
      have hcons := items_cons k _ hne
      have hF := front_any (s.extract k s.size)
      rw [tl_rest] at hF
      have hFs : (s.extract k s.size).size ≤ 9223372036854775807 := by simp; omega
      have hle := front_le ((tl s).drop k)
      have hdw := fun n => decode_whole s k n
      unfold headIt wid at hcons
      have HE : Hid (items 0 (tl s) = pre ++ items k ((tl s).drop k)) := he
      clear he
      obtain ⟨⟨m, b⟩, hr⟩ : ∃ r, r = front ((tl s).drop k) := ⟨_, rfl⟩
      rw [← hr] at hF hle hcons hdw
      have HR : Hid (front ((tl s).drop k) = (m, b)) := hr.symm
      clear hr
      obtain ⟨hle1, hle2, hle3, hle4⟩ := hle
      have hlen : ((tl s).drop k).length = s.size - k := by simp
      rw [hlen] at hle1
      simp only at hle1 hle2 hle3 hle4 hdw hcons
      cases b with
      | true =>
        have hm1 := hle3 rfl
        have hd := hdw m rfl rfl
        clear hdw hle3 hle4
        have hse : (s.extract k (k + m)).size = m := by simp; omega
        gi_wp2_with (first
          | (refine ⟨trivial, ?_⟩; gi_at_call 52; refine (callsIn_wide.2 (badByte_any k _)).mono ?_; rintro e w1 ⟨rfl, hb1⟩; unfold itv; dsimp only; have hcA := fun o => cell_alloc_l o ((hb1.cell (p := ⟨Bs, 0, none⟩) hBlt).trans hcx))
          | (refine ⟨trivial, ?_⟩; gi_at_call 53; refine (callsIn_wide.2 (hF _ hFs)).mono ?_; rintro e w2 ⟨rfl, rfl⟩)
          | (refine ⟨trivial, ?_⟩; gi_at_call 54; refine (callsIn_wide.2 (sequence_any (s.extract k (k + m)) k (by omega) (by omega) _)).mono ?_; rintro e w3 ⟨rfl, hb3⟩; rw [hse, hd]; unfold itv; dsimp only; have hx3 := (hb3.block w1.heap.size (by simp)).trans (World.alloc_heap_new w1 _); have x0 := cell_of_block hx3 (i := 0); have x1 := cell_of_block hx3 (i := 1); have x2 := cell_of_block hx3 (i := 2); have x3 := cell_of_block hx3 (i := 3); have f0 := fun i => unfrozen_of_block hx3 i))
        have hb4 : Below wr.heap.size wr ((((w3.setCell ⟨w1.heap.size, 0, none⟩ (.int .i64 (k : Nat))).setCell ⟨w1.heap.size, 1, none⟩ (.int .i64 (m : Nat))).setCell ⟨w1.heap.size, 2, none⟩ (.int .i32 (rn ((tl s).drop k) : Nat))).setCell ⟨w1.heap.size, 3, none⟩ (.bool false)) := by
          have hz := hb1.size
          exact (((((hb1.alloc hz _).trans (hb3.mono (by simp; omega))).setCell (p := ⟨w1.heap.size, 0, none⟩) hz _).setCell (p := ⟨w1.heap.size, 1, none⟩) hz _).setCell (p := ⟨w1.heap.size, 2, none⟩) hz _).setCell (p := ⟨w1.heap.size, 3, none⟩) hz _
        have hx4 := block_setCell (i := 3) (block_setCell (i := 2) (block_setCell (i := 1) (block_setCell (i := 0) hx3 (.int .i64 (k : Nat))) (.int .i64 (m : Nat))) (.int .i32 (rn ((tl s).drop k) : Nat))) (.bool false)
        obtain ⟨W4, hW4⟩ : ∃ W4, W4 = (((w3.setCell ⟨w1.heap.size, 0, none⟩ (.int .i64 (k : Nat))).setCell ⟨w1.heap.size, 1, none⟩ (.int .i64 (m : Nat))).setCell ⟨w1.heap.size, 2, none⟩ (.int .i32 (rn ((tl s).drop k) : Nat))).setCell ⟨w1.heap.size, 3, none⟩ (.bool false) := ⟨_, rfl⟩
        rw [← hW4] at hb4 hx4 ⊢
        clear hW4 hx3 x0 x1 x2 x3 f0 hb3 hcA
        have hi4 : items 0 (tl s) = (pre ++ [⟨k, m, rn ((tl s).drop k), false⟩]) ++ items (k + m) ((tl s).drop (k + m)) := by
          rw [HE.out, hcons, List.drop_drop]
          simp
        have HL : Hid (items 0 (tl s) = (pre ++ [⟨k, m, rn ((tl s).drop k), false⟩]) ++ items (k + m) ((tl s).drop (k + m))) := hi4
        have hp4 : pre.length < N := by
          have := congrArg List.length hi4
          simp at this
          omega
        obtain ⟨fn, tmps, assign, body, hy, hR⟩ := hY pre ⟨k, m, rn ((tl s).drop k), false⟩ W4 (hJ _ _ _ hJs hb4) hp4
        unfold itv at hy
        dsimp only at hy
        clear hi4 hcons
        rw [hy]
        gi_wp2
        refine hR.mono ?_
        rintro e W5 (⟨rfl, hJ5, hk5⟩ | ⟨rfl, hJx5⟩)
        · have hx5 := hk5.2.2 _ _ hx4 rfl
          rw [hx4] at hx5
          have hx6 := cell_of_block hx5 (i := 1)
          gi_wp2
          go_roundw
          case rel => exact ⟨k + m, _, by omega, by go_num, HL.out, hJ5, hk5.2.1.trans ((hb4.block Bs hBlt).trans HX.out)⟩
          case measure => simp [intOf]; omega
        · gi_wp2
          refine bodyPost_ret (results_none rfl _ _ _) rfl ?_
          exact ⟨⟨_, rfl⟩, .inr ⟨_, ⟨_, HL.out.symm⟩, hJx5⟩⟩
      | false =>
        simp only [Bool.false_eq_true, if_false] at hcons
        clear hdw hle3 hle4
        gi_wp2_with (first
          | (refine ⟨trivial, ?_⟩; gi_at_call 52; refine (callsIn_wide.2 (badByte_any k _)).mono ?_; rintro e w1 ⟨rfl, hb1⟩; unfold itv; dsimp only; have hcA := fun o => cell_alloc_l o ((hb1.cell (p := ⟨Bs, 0, none⟩) hBlt).trans hcx))
          | (refine ⟨trivial, ?_⟩; gi_at_call 53; refine (callsIn_wide.2 (hF _ hFs)).mono ?_; rintro e w2 ⟨rfl, rfl⟩))
        have hb4 : Below wr.heap.size wr (w1.alloc (.cells #[.int .i64 (k : Nat), .int .i64 1, .int .i32 65533, .bool true] 102)) := hb1.alloc hb1.size _
        have hx4 := World.alloc_heap_new w1 (.cells #[.int .i64 (k : Nat), .int .i64 1, .int .i32 65533, .bool true] 102)
        obtain ⟨W4, hW4⟩ : ∃ W4, W4 = w1.alloc (.cells #[.int .i64 (k : Nat), .int .i64 1, .int .i32 65533, .bool true] 102) := ⟨_, rfl⟩
        rw [← hW4] at hb4 hx4 ⊢
        clear hW4 hcA
        have hi4 : items 0 (tl s) = (pre ++ [⟨k, 1, 65533, true⟩]) ++ items (k + 1) ((tl s).drop (k + 1)) := by
          rw [HE.out, hcons, List.drop_drop]
          simp
        have HL : Hid (items 0 (tl s) = (pre ++ [⟨k, 1, 65533, true⟩]) ++ items (k + 1) ((tl s).drop (k + 1))) := hi4
        have hp4 : pre.length < N := by
          have := congrArg List.length hi4
          simp at this
          omega
        obtain ⟨fn, tmps, assign, body, hy, hR⟩ := hY pre ⟨k, 1, 65533, true⟩ W4 (hJ _ _ _ hJs hb4) hp4
        unfold itv at hy
        dsimp only at hy
        clear hi4 hcons
        rw [show ((1 : Nat) : Int) = 1 from rfl, show ((65533 : Nat) : Int) = 65533 from rfl] at hy
        rw [hy]
        gi_wp2
        refine hR.mono ?_
        rintro e W5 (⟨rfl, hJ5, hk5⟩ | ⟨rfl, hJx5⟩)
        · have hx5 := hk5.2.2 _ _ hx4 rfl
          rw [hx4] at hx5
          have hx6 := cell_of_block hx5 (i := 1)
          gi_wp2
          go_roundw
          case rel => exact ⟨k + 1, _, by omega, by go_num, HL.out, hJ5, hk5.2.1.trans ((hb4.block Bs hBlt).trans HX.out)⟩
          case measure => simp [intOf]; omega
        · gi_wp2
          refine bodyPost_ret (results_none rfl _ _ _) rfl ?_
          exact ⟨⟨_, rfl⟩, .inr ⟨_, ⟨_, HL.out.symm⟩, hJx5⟩⟩
    · obtain rfl : k = s.size := by omega
      have hd0 : (tl s).drop s.size = [] := by rw [← tl_len, List.drop_length]
      rw [hd0, items_nil, List.append_nil] at he
      have HE : Hid (items 0 (tl s) = pre) := he
      clear he hd0
      gi_wp2
      go_end0
      exact ⟨⟨_, rfl⟩, .inl ⟨_, HE.out.symm, hJs⟩⟩
/-- utf.Items: the text is boxed; the function value captures the box. -/
theorem items_in (n : Nat) (s : ByteArray) (w : World) :
    CallsIn Fence.wide n Tryd.prog 36 #[.string s] w fun e w' => e = .returned (.func (.func 51) #[] #[.pointer (some ⟨w.heap.size, 0, none⟩)]) ∧ w' = w.alloc (.cells #[.string s] 9) := by
  refine callsIn_of_wp Tryd.func36 rfl trivial ?_ rfl
  simp only [Tryd.ntmps36, List.size_toArray, List.length_cons, List.length_nil, Nat.reduceAdd, Nat.reduceSub, Array.replicate_succ, Array.replicate_zero, List.push_toArray, List.append_toArray, List.nil_append, List.cons_append]
  gi_wp2
  go_ret
  exact ⟨rfl, rfl⟩
theorem items_stops (n : Nat) (hn : 1 ≤ n) (Bs : Nat) (s : ByteArray) (hs : s.size ≤ 9223372036854775807) (w : World) (hc : w.cell? ⟨Bs, 0, none⟩ = some (.string s)) :
    SeqStopsK Fence.wide n Tryd.prog 51 #[.pointer (some ⟨Bs, 0, none⟩)] (fun x : It => #[itv x]) (KpJ Bs) (fun ys => ys = items 0 (tl s)) (fun pre => pre <+: items 0 (tl s)) (items 0 (tl s)).length w := fun l J Jx W hW hJ _ hY h0 =>
  items1_in n hn l Bs _ s hs J Jx (Nat.le_refl _)
    (fun pre A B hA hAB => hJ pre A B none hA ⟨hAB.os, hAB.tape, hAB.output, hAB.size, fun k hk _ => hAB.block k hk⟩ (fun r e => by cases e))
    hY W ((hW.cell (p := ⟨Bs, 0, none⟩) (World.block_lt_of_cell? w _ hc)).trans hc) h0
end Go.Proofs.YtonbfcpbgkpbaaaDoor
end
section
/- Rows of items in memory: appending one. -/
namespace Go.Proofs.YtonbfcpbgkpbaaaDoor
open Go.RowKit
open Go.Joins
/-- An item's cells, and those of a row. -/
def cellI (x : It) : List Value := [.int .i64 (x.frm : Nat), .int .i64 (x.bytes : Nat), .int .i32 (x.rune : Nat), .bool x.bad]
def cellsI (l : List It) : List Value := l.flatMap cellI
theorem cellsI_length (l : List It) : (cellsI l).length = l.length * 4 := by
  induction l with
  | nil => rfl
  | cons x l ih => simp only [cellsI, List.flatMap_cons, List.length_append, List.length_cons] at ih ⊢; rw [ih]; simp [cellI]; omega
theorem cellsI_snoc (l : List It) (x : It) : cellsI (l ++ [x]) = cellsI l ++ cellI x := by simp [cellsI]
theorem cellI_one (x : It) : ∀ v ∈ cellI x, v.oneCell' = true := by
  intro v hv
  simp [cellI] at hv
  rcases hv with rfl | rfl | rfl | rfl <;> rfl
theorem cellI_cells (w : World) (b : Nat) (x : It) (T : TypeId) (fr : Nat × Nat) (h : w.heap[b]? = some (.cells (cellI x).toArray T fr)) : ∀ j u, (cellI x)[j]? = some u → w.cell? ((⟨b, 0, none⟩ : Addr).add j) = some u := by
  intro j u hu
  rw [cell_add, Nat.zero_add, cell_of_block h]
  simpa using hu
/-- The value v owns the items l: rows of type T (slices S). -/
def OwnI (T : TypeId) (w : World) (base : Nat) (v : Value) (l : List It) : Prop := w.ownsRow base T 4 v l.length (cellsI l) ∧ (v = .slice none 0 0 ↔ l = [])
theorem OwnI.nil (T : TypeId) (w : World) (base : Nat) : OwnI T w base (.slice none 0 0) [] := ⟨World.ownsRow_nil w base T 4, by simp⟩
theorem OwnI.below {T : TypeId} {w w' : World} {base : Nat} {v : Value} {l : List It} {B : Nat} (h : OwnI T w base v l) (hb : Below B w w') (hB : w.heap.size ≤ B) : OwnI T w' base v l := by
  refine ⟨⟨h.1.1, ?_⟩, h.2⟩
  rcases h.1.2 with h0 | ⟨g, cap, cur, hv, hg, hh, r⟩
  · exact .inl h0
  · refine .inr ⟨g, cap, cur, hv, hg, ?_, r⟩
    rw [hb.block g (Nat.lt_of_lt_of_le (Array.getElem?_eq_some_iff.1 hh).1 hB)]
    exact hh
/-- What an append to a row writes: nothing that lay; or the row alone, which has room for two at least. -/
def RowTurn (T : TypeId) (base : Nat) (W w' : World) : Prop := W.grownBy w' none ∨ ∃ g c, W.heap[g]? = some (.cells c T (0, 0)) ∧ c.size ≠ 4 ∧ base ≤ g ∧ W.grownBy w' (some g)
theorem RowTurn.below {T : TypeId} {base : Nat} {W w' : World} (h : RowTurn T base W w') (hb : base ≤ W.heap.size) : Below base W w' := by
  rcases h with h | ⟨g, c, _, _, hg, h⟩
  · exact (Below.refl base W).grown h hb (fun k hk => by cases hk)
  · exact (Below.refl base W).grown h hb (fun k hk => by cases hk; exact hg)
theorem run_own_it (S T : TypeId) (i0 : TypeInfo) (z : Value) (hS : Tryd.prog.underlying S = some (.slice T)) (hi : Tryd.prog.info? T = some i0) (hz0 : i0.zero = some z) (hz1 : i0.size = 4) (hz2 : i0.bytes = 24) (hzc : z.cells.size = 4)
    (W : World) (base : Nat) (v : Value) (l : List It) (x : It) (b cap : Nat) (hown : OwnI T W base v l) (hx : W.heap[b]? = some (.cells (cellI x).toArray T (0, 0))) (hb : base ≤ W.heap.size) (hsz : (l.length + 1) * 24 ≤ 140737488355328) :
    ∃ v' w', (Builtin.append_ #[S, S] S #[v, .slice (some ⟨b, 0, none⟩) 1 cap]).run Tryd.prog W = .ok v' w' ∧ OwnI T w' base v' (l ++ [x]) ∧ RowTurn T base W w' := by
  have hc := cellI_cells W b x T (0, 0) hx
  have hl4 : (cellI x).length = 1 * 4 := rfl
  have hend : ∀ (v' : Value) (w' : World), w'.ownsRow base T 4 v' (l.length + 1) (cellsI l ++ cellI x) → OwnI T w' base v' (l ++ [x]) := by
    intro v' w' h
    refine ⟨by rw [List.length_append, cellsI_snoc]; exact h, ?_⟩
    obtain ⟨g, cap, rfl⟩ := ownsRow_form h (by omega)
    simp
  rcases hown.1.2 with ⟨rfl, h0⟩ | ⟨g, cp, cur, rfl, hg, hh, hn, hm, hcs, ht⟩
  · obtain ⟨v', w', h1, h2, h3, _⟩ := run_append_own (P := Tryd.prog) W base S S T i0 z 4 24 hS hi hz0 hz1 hz2 hzc (by decide) (.slice none 0 0) l.length (cellsI l) hown.1 ⟨b, 0, none⟩ 1 cap (cellI x) hl4 hc (cellI_one x) (by unfold maxLen; omega) hsz hb
    exact ⟨v', w', h1, hend v' w' h2, .inl h3⟩
  · by_cases hroom : l.length < cp
    · obtain ⟨v', w', h1, h2, h3, _⟩ := run_append_own (P := Tryd.prog) W base S S T i0 z 4 24 hS hi hz0 hz1 hz2 hzc (by decide) (.slice (some ⟨g, 0, none⟩) l.length cp) l.length (cellsI l) hown.1 ⟨b, 0, none⟩ 1 cap (cellI x) hl4 hc (cellI_one x) (by unfold maxLen; omega) hsz hb
      refine ⟨v', w', h1, hend v' w' h2, .inr ⟨g, cur, hh, ?_, hg, h3⟩⟩
      have hl0 : l ≠ [] := fun e => by have := hown.2.2 e; cases this
      have := List.length_pos_iff.2 hl0
      omega
    · obtain ⟨v', w', h1, h2, h3⟩ := run_append_arg_grows (P := Tryd.prog) W S S T i0 z 4 24 hS hi hz0 hz1 hz2 hzc (by decide) ⟨g, 0, none⟩ l.length cp (cellsI l) (cellsI_length l) (fun j u hu => by
        have hj : j < l.length * 4 := by
          rw [← cellsI_length]
          exact (List.getElem?_eq_some_iff.1 hu).1
        rw [cell_add, Nat.zero_add, World.ownsRow.cellAt hown.1 j hj, hu]) ⟨b, 0, none⟩ 1 cap (cellI x) hl4 hc (by omega) (by unfold maxLen; omega) hsz
      exact ⟨v', w', h1, hend v' w' (ownsRow_le h2 hb), .inl h3⟩
end Go.Proofs.YtonbfcpbgkpbaaaDoor
end
section
/- Appending inside a fence; what a row's turn keeps. -/
namespace Go.Proofs.YtonbfcpbgkpbaaaDoor
open Go.RowKit Go.Shelf
open Go.Joins
attribute [local go_sem] Oper.semAt_some
theorem wpListIn_append_run {F : Fence} {n : Nat} {P : Program} {w : World} {ops : Array Oper} {rest : List Oper} {o : Oper} {a : Act} {Q : Exit → Act → World → Prop} (hgd : o.guard = none) (s x : Operand) (t tx : TypeId)
    (ho : o.op = .call { callee := .builtin .append, args := #[s, x], argTypes := #[t, tx] }) (v y : Value) (hs : a.eval s = v) (hx : a.eval x = y) (v' : Value) (w' : World)
    (hr : (Builtin.append_ #[t, tx] o.type #[v, y]).run P w = .ok v' w') (h : wpListIn F n P ops Q rest (a.put o.dst v') w') : wpListIn F n P ops Q (o :: rest) a w := by
  refine wpListIn_plain hgd fun K hK' => ?_
  unfold Oper.wpIn
  refine ⟨?_, ?_⟩
  · simp [Oper.about, ho, resolve, Target.leads, Sem.run_pure]
  · rw [Oper.semAt_plain F _ _ (by rw [ho]; intro c hc'; cases hc')]
    simp [execOp, ho, resolve, invoke, builtin, hs, hx, hr, Result.andThen]
    exact hK' _ _ h
theorem RowTurn.keeps {T : TypeId} {base : Nat} {A w' : World} (h : RowTurn T base A w') {k : Nat} {o : Obj} (hk : A.heap[k]? = some o) (hno : ∀ c, o = .cells c T (0, 0) → c.size = 4) : w'.heap[k]? = some o := by
  have hlt := (Array.getElem?_eq_some_iff.1 hk).1
  rcases h with h | ⟨g, c, hg, hc, _, h⟩
  · exact (h.block k hlt (by simp)).trans hk
  · refine (h.block k hlt (fun e => ?_)).trans hk
    obtain rfl : k = g := by simpa using e
    rw [hg] at hk
    exact hc (hno c (Option.some.inj hk).symm)
theorem RowTurn.others {T : TypeId} {base : Nat} {A w' : World} (h : RowTurn T base A w') : KeepsOthers A w' := by
  rcases h with h | ⟨g, c, hg, hc, _, h⟩
  · exact KeepsOthers.of_grownBy h (fun j o e _ => by cases e)
  · exact KeepsOthers.of_grownBy h (fun j o e hj => by cases e; rw [hg] at hj; cases hj; rfl)
end Go.Proofs.YtonbfcpbgkpbaaaDoor
end
