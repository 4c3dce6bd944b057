/- utf.front: its contract, label by label. -/
import Derived.Test.YtddeamecgbdajaaDoorUFrontAid
namespace Go.Proofs.YtddeamecgbdajaaDoor
open Go.RowKit
/-- The code of front's scope. -/
def scopeIn (f : Func) : Code := match f.body with
  | some (.seq _ (.scope c)) => c
  | _ => .skip
/-- What front's run ends with. -/
abbrev FQ (w : World) (r : Nat × Bool) : Exit → Act → World → Prop := bodyPost Tryd.prog Tryd.f36 fun e w' => e = .returned (.tuple #[.int .i64 (r.1 : Nat), .bool r.2]) ∧ w' = w
abbrev FOn (w : World) (r : Nat × Bool) (l : Nat) (a : Act) : Prop := On Tryd.prog (scopeIn Tryd.f36) (FQ w r) l a w
theorem at_whole (s : ByteArray) (w : World) (k lo hi : Nat) (n l h : Int) (hn : n = (k : Nat)) (hl : l = (lo : Nat)) (hh : h = (hi : Nat)) (_hk : k ≤ 4) (t1 t2 t3 t7 t8 t9 t10 t11 t12 t13 t14 t15 t16 t17 t18 t19 t20 t21 t22 t23 t24 t25 t26 t27 t28 t29 t30 t31 t32 t33 t34 t35 t36 t37 t38 t39 t40 t41 t42 t43 t44 t45 t46 t47 t48 t49 t50 t51 t52 t53 t54 t55 t56 t57 t58 t59 t60 t61 : Value) :
    FOn w ((k, true)) 1 ⟨#[.string s, t1, t2, t3, .int .i64 n, .int .u8 l, .int .u8 h, t7, t8, t9, t10, t11, t12, t13, t14, t15, t16, t17, t18, t19, t20, t21, t22, t23, t24, t25, t26, t27, t28, t29, t30, t31, t32, t33, t34, t35, t36, t37, t38, t39, t40, t41, t42, t43, t44, t45, t46, t47, t48, t49, t50, t51, t52, t53, t54, t55, t56, t57, t58, t59, t60, t61], []⟩ := by
  subst hn hl hh
  refine on_label rfl ?_
  go_wp2_with fail
  rw [viaL_ret]
  go_ret2
  exact ⟨rfl, rfl⟩
theorem at_nothing (s : ByteArray) (w : World) (k lo hi : Nat) (n l h : Int) (hn : n = (k : Nat)) (hl : l = (lo : Nat)) (hh : h = (hi : Nat)) (_hk : k ≤ 4) (t1 t2 t3 t7 t8 t9 t10 t11 t12 t13 t14 t15 t16 t17 t18 t19 t20 t21 t22 t23 t24 t25 t26 t27 t28 t29 t30 t31 t32 t33 t34 t35 t36 t37 t38 t39 t40 t41 t42 t43 t44 t45 t46 t47 t48 t49 t50 t51 t52 t53 t54 t55 t56 t57 t58 t59 t60 t61 : Value) :
    FOn w ((0, false)) 0 ⟨#[.string s, t1, t2, t3, .int .i64 n, .int .u8 l, .int .u8 h, t7, t8, t9, t10, t11, t12, t13, t14, t15, t16, t17, t18, t19, t20, t21, t22, t23, t24, t25, t26, t27, t28, t29, t30, t31, t32, t33, t34, t35, t36, t37, t38, t39, t40, t41, t42, t43, t44, t45, t46, t47, t48, t49, t50, t51, t52, t53, t54, t55, t56, t57, t58, t59, t60, t61], []⟩ := by
  subst hn hl hh
  refine on_label rfl ?_
  go_wp2_with fail
  rw [viaL_ret]
  go_ret2
  exact ⟨rfl, rfl⟩
theorem at_part (s : ByteArray) (w : World) (k lo hi : Nat) (n l h : Int) (hn : n = (k : Nat)) (hl : l = (lo : Nat)) (hh : h = (hi : Nat)) (_hk : k ≤ 4) (t1 t2 t3 t7 t8 t9 t10 t11 t12 t13 t14 t15 t16 t17 t18 t19 t20 t21 t22 t23 t24 t25 t26 t27 t28 t29 t30 t31 t32 t33 t34 t35 t36 t37 t38 t39 t40 t41 t42 t43 t44 t45 t46 t47 t48 t49 t50 t51 t52 t53 t54 t55 t56 t57 t58 t59 t60 t61 : Value) :
    FOn w ((k, false)) 5 ⟨#[.string s, t1, t2, t3, .int .i64 n, .int .u8 l, .int .u8 h, t7, t8, t9, t10, t11, t12, t13, t14, t15, t16, t17, t18, t19, t20, t21, t22, t23, t24, t25, t26, t27, t28, t29, t30, t31, t32, t33, t34, t35, t36, t37, t38, t39, t40, t41, t42, t43, t44, t45, t46, t47, t48, t49, t50, t51, t52, t53, t54, t55, t56, t57, t58, t59, t60, t61], []⟩ := by
  subst hn hl hh
  refine on_label rfl ?_
  go_wp2_with fail
  rw [viaL_ret]
  go_ret2
  exact ⟨rfl, rfl⟩
theorem at_one (s : ByteArray) (w : World) (k lo hi : Nat) (n l h : Int) (hn : n = (k : Nat)) (hl : l = (lo : Nat)) (hh : h = (hi : Nat)) (hk : k ≤ 3) (t1 t2 t3 t7 t8 t9 t10 t11 t12 t13 t14 t15 t16 t17 t18 t19 t20 t21 t22 t23 t24 t25 t26 t27 t28 t29 t30 t31 t32 t33 t34 t35 t36 t37 t38 t39 t40 t41 t42 t43 t44 t45 t46 t47 t48 t49 t50 t51 t52 t53 t54 t55 t56 t57 t58 t59 t60 t61 : Value) :
    FOn w (goOne (tl s) k lo hi) 2 ⟨#[.string s, t1, t2, t3, .int .i64 n, .int .u8 l, .int .u8 h, t7, t8, t9, t10, t11, t12, t13, t14, t15, t16, t17, t18, t19, t20, t21, t22, t23, t24, t25, t26, t27, t28, t29, t30, t31, t32, t33, t34, t35, t36, t37, t38, t39, t40, t41, t42, t43, t44, t45, t46, t47, t48, t49, t50, t51, t52, t53, t54, t55, t56, t57, t58, t59, t60, t61], []⟩ := by
  subst hn hl hh
  unfold goOne
  by_cases hst : stands (tl s) k lo hi = true
  · rw [if_pos hst]
    refine on_label rfl ?_
    go_wp2_with (first | (apply wp_goto; change On _ _ _ _ _ _; refine at_whole s _ (k + 1) lo hi _ _ _ (by simp) rfl rfl (by omega) _ _ _ _ _ _ _ _ _ _ _ _ _ _ _ _ _ _ _ _ _ _ _ _ _ _ _ _ _ _ _ _ _ _ _ _ _ _ _ _ _ _ _ _ _ _ _ _ _ _ _ _ _ _ _ _ _ _) | (apply wp_label) | (go_at_call 48; refine (stands_lit s k lo hi _ _ _ rfl rfl rfl _).mono ?_; rintro e w1 ⟨rfl, rfl⟩))
  · rw [if_neg hst]
    have hst' : stands (tl s) k lo hi = false := by simpa using hst
    clear hst
    refine on_label rfl ?_
    go_wp2_with (first | (apply wp_goto; change On _ _ _ _ _ _; refine at_part s _ k lo hi _ _ _ rfl rfl rfl (by omega) _ _ _ _ _ _ _ _ _ _ _ _ _ _ _ _ _ _ _ _ _ _ _ _ _ _ _ _ _ _ _ _ _ _ _ _ _ _ _ _ _ _ _ _ _ _ _ _ _ _ _ _ _ _ _ _ _ _) | (apply wp_label) | (go_at_call 48; refine (stands_lit s k lo hi _ _ _ rfl rfl rfl _).mono ?_; rintro e w1 ⟨rfl, rfl⟩))
    rw [viaL_ret]
    go_ret2
    exact ⟨rfl, rfl⟩
theorem at_two (s : ByteArray) (w : World) (k lo hi : Nat) (n l h : Int) (hn : n = (k : Nat)) (hl : l = (lo : Nat)) (hh : h = (hi : Nat)) (hk : k ≤ 2) (t1 t2 t3 t7 t8 t9 t10 t11 t12 t13 t14 t15 t16 t17 t18 t19 t20 t21 t22 t23 t24 t25 t26 t27 t28 t29 t30 t31 t32 t33 t34 t35 t36 t37 t38 t39 t40 t41 t42 t43 t44 t45 t46 t47 t48 t49 t50 t51 t52 t53 t54 t55 t56 t57 t58 t59 t60 t61 : Value) :
    FOn w (goTwo (tl s) k lo hi) 3 ⟨#[.string s, t1, t2, t3, .int .i64 n, .int .u8 l, .int .u8 h, t7, t8, t9, t10, t11, t12, t13, t14, t15, t16, t17, t18, t19, t20, t21, t22, t23, t24, t25, t26, t27, t28, t29, t30, t31, t32, t33, t34, t35, t36, t37, t38, t39, t40, t41, t42, t43, t44, t45, t46, t47, t48, t49, t50, t51, t52, t53, t54, t55, t56, t57, t58, t59, t60, t61], []⟩ := by
  subst hn hl hh
  unfold goTwo
  by_cases hst : stands (tl s) k lo hi = true
  · rw [if_pos hst]
    refine on_label rfl ?_
    go_wp2_with (first | (apply wp_goto; change On _ _ _ _ _ _; refine at_one s _ (k + 1) 128 191 _ _ _ (by simp) rfl rfl (by omega) _ _ _ _ _ _ _ _ _ _ _ _ _ _ _ _ _ _ _ _ _ _ _ _ _ _ _ _ _ _ _ _ _ _ _ _ _ _ _ _ _ _ _ _ _ _ _ _ _ _ _ _ _ _ _ _ _ _) | (apply wp_label) | (go_at_call 48; refine (stands_lit s k lo hi _ _ _ rfl rfl rfl _).mono ?_; rintro e w1 ⟨rfl, rfl⟩))
  · rw [if_neg hst]
    have hst' : stands (tl s) k lo hi = false := by simpa using hst
    clear hst
    refine on_label rfl ?_
    go_wp2_with (first | (apply wp_goto; change On _ _ _ _ _ _; refine at_part s _ k lo hi _ _ _ rfl rfl rfl (by omega) _ _ _ _ _ _ _ _ _ _ _ _ _ _ _ _ _ _ _ _ _ _ _ _ _ _ _ _ _ _ _ _ _ _ _ _ _ _ _ _ _ _ _ _ _ _ _ _ _ _ _ _ _ _ _ _ _ _) | (apply wp_label) | (go_at_call 48; refine (stands_lit s k lo hi _ _ _ rfl rfl rfl _).mono ?_; rintro e w1 ⟨rfl, rfl⟩))
theorem at_three (s : ByteArray) (w : World) (k lo hi : Nat) (n l h : Int) (hn : n = (k : Nat)) (hl : l = (lo : Nat)) (hh : h = (hi : Nat)) (hk : k ≤ 1) (t1 t2 t3 t7 t8 t9 t10 t11 t12 t13 t14 t15 t16 t17 t18 t19 t20 t21 t22 t23 t24 t25 t26 t27 t28 t29 t30 t31 t32 t33 t34 t35 t36 t37 t38 t39 t40 t41 t42 t43 t44 t45 t46 t47 t48 t49 t50 t51 t52 t53 t54 t55 t56 t57 t58 t59 t60 t61 : Value) :
    FOn w (goThree (tl s) k lo hi) 4 ⟨#[.string s, t1, t2, t3, .int .i64 n, .int .u8 l, .int .u8 h, t7, t8, t9, t10, t11, t12, t13, t14, t15, t16, t17, t18, t19, t20, t21, t22, t23, t24, t25, t26, t27, t28, t29, t30, t31, t32, t33, t34, t35, t36, t37, t38, t39, t40, t41, t42, t43, t44, t45, t46, t47, t48, t49, t50, t51, t52, t53, t54, t55, t56, t57, t58, t59, t60, t61], []⟩ := by
  subst hn hl hh
  unfold goThree
  by_cases hst : stands (tl s) k lo hi = true
  · rw [if_pos hst]
    refine on_label rfl ?_
    go_wp2_with (first | (apply wp_goto; change On _ _ _ _ _ _; refine at_two s _ (k + 1) 128 191 _ _ _ (by simp) rfl rfl (by omega) _ _ _ _ _ _ _ _ _ _ _ _ _ _ _ _ _ _ _ _ _ _ _ _ _ _ _ _ _ _ _ _ _ _ _ _ _ _ _ _ _ _ _ _ _ _ _ _ _ _ _ _ _ _ _ _ _ _) | (apply wp_label) | (go_at_call 48; refine (stands_lit s k lo hi _ _ _ rfl rfl rfl _).mono ?_; rintro e w1 ⟨rfl, rfl⟩))
  · rw [if_neg hst]
    have hst' : stands (tl s) k lo hi = false := by simpa using hst
    clear hst
    refine on_label rfl ?_
    go_wp2_with (first | (apply wp_goto; change On _ _ _ _ _ _; refine at_part s _ k lo hi _ _ _ rfl rfl rfl (by omega) _ _ _ _ _ _ _ _ _ _ _ _ _ _ _ _ _ _ _ _ _ _ _ _ _ _ _ _ _ _ _ _ _ _ _ _ _ _ _ _ _ _ _ _ _ _ _ _ _ _ _ _ _ _ _ _ _ _) | (apply wp_label) | (go_at_call 48; refine (stands_lit s k lo hi _ _ _ rfl rfl rfl _).mono ?_; rintro e w1 ⟨rfl, rfl⟩))
abbrev FC (s : ByteArray) (w : World) (r : Nat × Bool) : Prop := Calls Tryd.prog 36 #[.string s] w fun e w' => e = .returned (.tuple #[.int .i64 (r.1 : Nat), .bool r.2]) ∧ w' = w
theorem front_A (s : ByteArray) (w : World) (_hs : s.size ≤ 9223372036854775807) (h0 : 0 < s.size) (h : s[0].toNat ≤ 127) : FC s w ((1, true)) := by
  have hc : (s[0]).toNat < 256 := UInt8.toNat_lt _
  have hne := not_empty s h0
  go_enter Tryd.func36, Tryd.ntmps36
  go_wp2_with fail
  apply on_enter
  change Code.wp Tryd.prog _ (viaL (On Tryd.prog (scopeIn Tryd.f36) _) _) _ _
  go_wp2_with (first | (apply wp_goto; change On _ _ _ _ _ _; refine at_whole s _ 1 128 191 _ _ _ rfl rfl rfl (by omega) _ _ _ _ _ _ _ _ _ _ _ _ _ _ _ _ _ _ _ _ _ _ _ _ _ _ _ _ _ _ _ _ _ _ _ _ _ _ _ _ _ _ _ _ _ _ _ _ _ _ _ _ _ _ _ _ _ _) | (apply wp_label))
theorem front_B (s : ByteArray) (w : World) (_hs : s.size ≤ 9223372036854775807) (h0 : 0 < s.size) (h : 127 < s[0].toNat ∧ s[0].toNat ≤ 193) : FC s w ((0, false)) := by
  have hc : (s[0]).toNat < 256 := UInt8.toNat_lt _
  have hne := not_empty s h0
  go_enter Tryd.func36, Tryd.ntmps36
  go_wp2_with fail
  apply on_enter
  change Code.wp Tryd.prog _ (viaL (On Tryd.prog (scopeIn Tryd.f36) _) _) _ _
  go_wp2_with (first | (apply wp_goto; change On _ _ _ _ _ _; refine at_nothing s _ 1 128 191 _ _ _ rfl rfl rfl (by omega) _ _ _ _ _ _ _ _ _ _ _ _ _ _ _ _ _ _ _ _ _ _ _ _ _ _ _ _ _ _ _ _ _ _ _ _ _ _ _ _ _ _ _ _ _ _ _ _ _ _ _ _ _ _ _ _ _ _) | (apply wp_label))
theorem front_C (s : ByteArray) (w : World) (_hs : s.size ≤ 9223372036854775807) (h0 : 0 < s.size) (h : 193 < s[0].toNat ∧ s[0].toNat ≤ 223) : FC s w (goOne (tl s) 1 128 191) := by
  have hc : (s[0]).toNat < 256 := UInt8.toNat_lt _
  have hne := not_empty s h0
  go_enter Tryd.func36, Tryd.ntmps36
  go_wp2_with fail
  apply on_enter
  change Code.wp Tryd.prog _ (viaL (On Tryd.prog (scopeIn Tryd.f36) _) _) _ _
  go_wp2_with (first | (apply wp_goto; change On _ _ _ _ _ _; refine at_one s _ 1 128 191 _ _ _ rfl rfl rfl (by omega) _ _ _ _ _ _ _ _ _ _ _ _ _ _ _ _ _ _ _ _ _ _ _ _ _ _ _ _ _ _ _ _ _ _ _ _ _ _ _ _ _ _ _ _ _ _ _ _ _ _ _ _ _ _ _ _ _ _) | (apply wp_label))
theorem front_D (s : ByteArray) (w : World) (_hs : s.size ≤ 9223372036854775807) (h0 : 0 < s.size) (h : 223 < s[0].toNat ∧ s[0].toNat < 225) : FC s w (goTwo (tl s) 1 160 191) := by
  have hc : (s[0]).toNat < 256 := UInt8.toNat_lt _
  have hne := not_empty s h0
  go_enter Tryd.func36, Tryd.ntmps36
  go_wp2_with fail
  apply on_enter
  change Code.wp Tryd.prog _ (viaL (On Tryd.prog (scopeIn Tryd.f36) _) _) _ _
  go_wp2_with (first | (apply wp_goto; change On _ _ _ _ _ _; refine at_two s _ 1 160 191 _ _ _ rfl rfl rfl (by omega) _ _ _ _ _ _ _ _ _ _ _ _ _ _ _ _ _ _ _ _ _ _ _ _ _ _ _ _ _ _ _ _ _ _ _ _ _ _ _ _ _ _ _ _ _ _ _ _ _ _ _ _ _ _ _ _ _ _) | (apply wp_label))
theorem front_E (s : ByteArray) (w : World) (_hs : s.size ≤ 9223372036854775807) (h0 : 0 < s.size) (h : 236 < s[0].toNat ∧ s[0].toNat < 238) : FC s w (goTwo (tl s) 1 128 159) := by
  have hc : (s[0]).toNat < 256 := UInt8.toNat_lt _
  have hne := not_empty s h0
  go_enter Tryd.func36, Tryd.ntmps36
  go_wp2_with fail
  apply on_enter
  change Code.wp Tryd.prog _ (viaL (On Tryd.prog (scopeIn Tryd.f36) _) _) _ _
  go_wp2_with (first | (apply wp_goto; change On _ _ _ _ _ _; refine at_two s _ 1 128 159 _ _ _ rfl rfl rfl (by omega) _ _ _ _ _ _ _ _ _ _ _ _ _ _ _ _ _ _ _ _ _ _ _ _ _ _ _ _ _ _ _ _ _ _ _ _ _ _ _ _ _ _ _ _ _ _ _ _ _ _ _ _ _ _ _ _ _ _) | (apply wp_label))
theorem front_F (s : ByteArray) (w : World) (_hs : s.size ≤ 9223372036854775807) (h0 : 0 < s.size) (h : 224 < s[0].toNat ∧ s[0].toNat < 237 ∨ 237 < s[0].toNat ∧ s[0].toNat < 240) : FC s w (goTwo (tl s) 1 128 191) := by
  have hc : (s[0]).toNat < 256 := UInt8.toNat_lt _
  have hne := not_empty s h0
  go_enter Tryd.func36, Tryd.ntmps36
  go_wp2_with fail
  apply on_enter
  change Code.wp Tryd.prog _ (viaL (On Tryd.prog (scopeIn Tryd.f36) _) _) _ _
  go_wp2_with (first | (apply wp_goto; change On _ _ _ _ _ _; refine at_two s _ 1 128 191 _ _ _ rfl rfl rfl (by omega) _ _ _ _ _ _ _ _ _ _ _ _ _ _ _ _ _ _ _ _ _ _ _ _ _ _ _ _ _ _ _ _ _ _ _ _ _ _ _ _ _ _ _ _ _ _ _ _ _ _ _ _ _ _ _ _ _ _) | (apply wp_label))
theorem front_G (s : ByteArray) (w : World) (_hs : s.size ≤ 9223372036854775807) (h0 : 0 < s.size) (h : 239 < s[0].toNat ∧ s[0].toNat < 241) : FC s w (goThree (tl s) 1 144 191) := by
  have hc : (s[0]).toNat < 256 := UInt8.toNat_lt _
  have hne := not_empty s h0
  go_enter Tryd.func36, Tryd.ntmps36
  go_wp2_with fail
  apply on_enter
  change Code.wp Tryd.prog _ (viaL (On Tryd.prog (scopeIn Tryd.f36) _) _) _ _
  go_wp2_with (first | (apply wp_goto; change On _ _ _ _ _ _; refine at_three s _ 1 144 191 _ _ _ rfl rfl rfl (by omega) _ _ _ _ _ _ _ _ _ _ _ _ _ _ _ _ _ _ _ _ _ _ _ _ _ _ _ _ _ _ _ _ _ _ _ _ _ _ _ _ _ _ _ _ _ _ _ _ _ _ _ _ _ _ _ _ _ _) | (apply wp_label))
theorem front_H (s : ByteArray) (w : World) (_hs : s.size ≤ 9223372036854775807) (h0 : 0 < s.size) (h : 240 < s[0].toNat ∧ s[0].toNat < 244) : FC s w (goThree (tl s) 1 128 191) := by
  have hc : (s[0]).toNat < 256 := UInt8.toNat_lt _
  have hne := not_empty s h0
  go_enter Tryd.func36, Tryd.ntmps36
  go_wp2_with fail
  apply on_enter
  change Code.wp Tryd.prog _ (viaL (On Tryd.prog (scopeIn Tryd.f36) _) _) _ _
  go_wp2_with (first | (apply wp_goto; change On _ _ _ _ _ _; refine at_three s _ 1 128 191 _ _ _ rfl rfl rfl (by omega) _ _ _ _ _ _ _ _ _ _ _ _ _ _ _ _ _ _ _ _ _ _ _ _ _ _ _ _ _ _ _ _ _ _ _ _ _ _ _ _ _ _ _ _ _ _ _ _ _ _ _ _ _ _ _ _ _ _) | (apply wp_label))
theorem front_I (s : ByteArray) (w : World) (_hs : s.size ≤ 9223372036854775807) (h0 : 0 < s.size) (h : 243 < s[0].toNat ∧ s[0].toNat < 245) : FC s w (goThree (tl s) 1 128 143) := by
  have hc : (s[0]).toNat < 256 := UInt8.toNat_lt _
  have hne := not_empty s h0
  go_enter Tryd.func36, Tryd.ntmps36
  go_wp2_with fail
  apply on_enter
  change Code.wp Tryd.prog _ (viaL (On Tryd.prog (scopeIn Tryd.f36) _) _) _ _
  go_wp2_with (first | (apply wp_goto; change On _ _ _ _ _ _; refine at_three s _ 1 128 143 _ _ _ rfl rfl rfl (by omega) _ _ _ _ _ _ _ _ _ _ _ _ _ _ _ _ _ _ _ _ _ _ _ _ _ _ _ _ _ _ _ _ _ _ _ _ _ _ _ _ _ _ _ _ _ _ _ _ _ _ _ _ _ _ _ _ _ _) | (apply wp_label))
theorem front_J (s : ByteArray) (w : World) (_hs : s.size ≤ 9223372036854775807) (h0 : 0 < s.size) (h : 244 < s[0].toNat) : FC s w ((0, false)) := by
  have hc : (s[0]).toNat < 256 := UInt8.toNat_lt _
  have hne := not_empty s h0
  go_enter Tryd.func36, Tryd.ntmps36
  go_wp2_with fail
  apply on_enter
  change Code.wp Tryd.prog _ (viaL (On Tryd.prog (scopeIn Tryd.f36) _) _) _ _
  go_wp2_with (first | (apply wp_goto; change On _ _ _ _ _ _; refine at_nothing s _ 1 128 191 _ _ _ rfl rfl rfl (by omega) _ _ _ _ _ _ _ _ _ _ _ _ _ _ _ _ _ _ _ _ _ _ _ _ _ _ _ _ _ _ _ _ _ _ _ _ _ _ _ _ _ _ _ _ _ _ _ _ _ _ _ _ _ _ _ _ _ _) | (apply wp_label))
  rw [viaL_ret]
  go_ret2
  exact ⟨rfl, rfl⟩
theorem is_empty (s : ByteArray) (h : s.size = 0) : s.toList.isEmpty = true := by
  rw [ByteArray.toList_eq]
  have : s.data.toList.length = 0 := by simpa using h
  rw [List.length_eq_zero_iff.1 this]
  rfl
theorem front_Z (s : ByteArray) (w : World) (h0 : s.size = 0) : FC s w (0, false) := by
  have hne := is_empty s h0
  go_enter Tryd.func36, Tryd.ntmps36
  go_wp2_with fail
  apply on_enter
  change Code.wp Tryd.prog _ (viaL (On Tryd.prog (scopeIn Tryd.f36) _) _) _ _
  go_wp2_with (first | (apply wp_goto; change On _ _ _ _ _ _; refine at_nothing s _ 1 128 191 _ _ _ rfl rfl rfl (by omega) _ _ _ _ _ _ _ _ _ _ _ _ _ _ _ _ _ _ _ _ _ _ _ _ _ _ _ _ _ _ _ _ _ _ _ _ _ _ _ _ _ _ _ _ _ _ _ _ _ _ _ _ _ _ _ _ _ _) | (apply wp_label))
theorem front_any (s : ByteArray) (w : World) (hs : s.size ≤ 9223372036854775807) : FC s w (front (tl s)) := by
  unfold front
  rw [tl_len]
  by_cases h0 : s.size = 0
  · rw [if_pos h0]
    exact front_Z s w h0
  · rw [if_neg h0]
    have h0' : 0 < s.size := by omega
    rw [bt_zero s h0']
    by_cases hA : s[0].toNat ≤ 127
    · rw [if_pos hA]; exact front_A s w hs h0' hA
    · rw [if_neg hA]
      by_cases hB : s[0].toNat ≤ 193
      · rw [if_pos hB]; exact front_B s w hs h0' ⟨by omega, hB⟩
      · rw [if_neg hB]
        by_cases hC : s[0].toNat ≤ 223
        · rw [if_pos hC]; exact front_C s w hs h0' ⟨by omega, hC⟩
        · rw [if_neg hC]
          by_cases hD : s[0].toNat = 224
          · rw [if_pos hD]; exact front_D s w hs h0' (by omega)
          · rw [if_neg hD]
            by_cases hE : s[0].toNat = 237
            · rw [if_pos hE]; exact front_E s w hs h0' (by omega)
            · rw [if_neg hE]
              by_cases hF : s[0].toNat ≤ 239
              · rw [if_pos hF]; exact front_F s w hs h0' (by omega)
              · rw [if_neg hF]
                by_cases hG : s[0].toNat = 240
                · rw [if_pos hG]; exact front_G s w hs h0' (by omega)
                · rw [if_neg hG]
                  by_cases hH : s[0].toNat ≤ 243
                  · rw [if_pos hH]; exact front_H s w hs h0' (by omega)
                  · rw [if_neg hH]
                    by_cases hI : s[0].toNat = 244
                    · rw [if_pos hI]; exact front_I s w hs h0' (by omega)
                    · rw [if_neg hI]; exact front_J s w hs h0' (by omega)
end Go.Proofs.YtddeamecgbdajaaDoor
