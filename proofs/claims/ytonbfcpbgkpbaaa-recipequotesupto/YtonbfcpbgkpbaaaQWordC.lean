/- recipe's scanner.word: from label 3 on. -/
import Derived.Test.YtonbfcpbgkpbaaaQWord0
namespace Go.Proofs.Ytonbfcpbgkpbaaa
open Go.RowKit Go.Sort Go.Joins
set_option linter.unusedVariables false
set_option linter.unusedSimpArgs false
set_option maxRecDepth 100000
set_option maxHeartbeats 8000000 in
theorem word_l3 (w : World) (g : Nat) (s : PZ) (R : Nat × Nat × List UInt8) (hs : s.src.size ≤ 4194304) (k : Nat) (h : UInt8) (acc : List UInt8) (v : Value) (c0 : Int) (a : Act) (wr : World) (m : Nat) (hlow : lowB h = true)
    (hF : FWo g w.heap.size s.p h v c0 a) (hW : Wst w g s k acc v wr) (hm : s.p + 1 + m = k) (hR : R = ((wordW 2 h ((tl s.src).drop k)).1, m + (wordW 2 h ((tl s.src).drop k)).2.1, acc ++ (wordW 2 h ((tl s.src).drop k)).2.2)) :
    (restQ (scopeQ Try.f62) 3).wp Try.prog (viaL (fun l' a' w' => ∃ n, n < s.src.size - k + 1 ∧ JWo w g s R n l' a' w') (WoQ w g s R)) a wr := by
  have hR0 := read_any g { s with p := k } wr hW.pb hW.hk hs
  simp only at hR0
  have hks := hW.hk
  have hle := hW.le
  have hge := hereI_ge (tl s.src) k
  have htl := tl_len s.src
  obtain ⟨t1, t7, t8, t9, t10, t11, t12, t13, t14, t15, t16, t17, t18, t19, t20, t21, t22, t23, t24, t25, t26, t27, t28, t29, t30, t31, t32, t33, t34, t35, t36, t37, t38, t39, t40, t41, t42, t43, t44, t45, t46, t47, t48, t49, t50, t51, t52, t53, t54, t55, t56, t57, t58, t59, t60, t61, t62, t63, t64, t65, t66, t67, t68, t69, t70, t71, t72, t73, t74, rfl⟩ := hF
  obtain ⟨z, hzz⟩ : ∃ z, z = w.heap.size := ⟨_, rfl⟩
  rw [← hzz]
  have HZZ := Lib.hid hzz
  have HW := Lib.hid hW
  have HM := Lib.hid hm
  have hmk : m ≤ k := by omega
  clear hzz hW hm
  change Code.wp _ (Code.seq _ _) _ _ _
  by_cases hl : k < (tl s.src).length
  · rw [drop_cons _ k hl] at hR
    rw [hereI_at hl, nextP_in hl] at hR0
    obtain ⟨c, hcc⟩ : ∃ c, c = (tl s.src)[k] := ⟨_, rfl⟩
    rw [← hcc] at hR hR0
    have hb8 := UInt8.toNat_lt c
    clear hcc hge
    have hO := fun wx => isOneOf_any (c.toNat : Int) lowS (by omega) (by omega) wx
    rw [oneI_low] at hO
    cases hlo : lowB c with
    | true =>
      rw [hlo] at hO
      have hY := fun wx => byteOf_any h c hlow hlo wx
      have hS := fun wx => isShown_any ((byteV h c).toNat : Int) wx
      rw [shown_eq] at hS
      cases hsh : shownB (byteV h c) with
      | true =>
        rw [w2_n (by rw [hsh]; simp)] at hR
        rw [hsh] at hS
        have HRR := Lib.hid hR
        clear hR hlo hsh
        obtain ⟨b, hbb⟩ : ∃ b, b = byteV h c := ⟨_, rfl⟩
        rw [← hbb] at hY hS
        clear hbb
        go_wp2_with fail
        refine hR0.mono ?_
        rintro e w1 ⟨rfl, h1, hb⟩
        have HW1 := Lib.hid (HW.out.read (by rw [nextP_in hl]; exact h1) hb)
        rw [nextP_in hl] at HW1
        clear hR0 h1 hb
        go_wp2_with fail
        refine (hO _).mono ?_
        rintro e w2 ⟨rfl, he⟩
        obtain rfl := he.symm
        clear hO
        go_wp2_with fail
        refine (hY _).mono ?_
        rintro e w2 ⟨rfl, he⟩
        obtain rfl := he.symm
        go_wp2_with fail
        refine (hS _).mono ?_
        rintro e w2 ⟨rfl, he⟩
        obtain rfl := he.symm
        clear hS hY
        go_wp2_with fail
        refine wp_label (show Exit.then _ _ .normal _ _ from ?_)
        have hzE := HZZ.out
        subst hzE
        rename_i KK aK
        exact aK _ _ (word_wrong w g s R hs _ (k + 1) h acc v (c.toNat : Int) _ w1 ⟨_, _, _, _, _, _, _, _, _, _, _, _, _, _, _, _, _, _, _, _, _, _, _, _, _, _, _, _, _, _, _, _, _, _, _, _, _, _, _, _, _, _, _, _, _, _, _, _, _, _, _, _, _, _, _, _, _, _, _, _, _, _, _, _, _, _, _, _, _, rfl⟩ HW1.out (by rw [HRR.out, if_neg (by omega)]))
      | false =>
        rw [w2_d hlo hsh] at hR
        rw [hsh] at hS
        have HRR := Lib.hid hR
        clear hR hlo hsh
        obtain ⟨b, hbb⟩ : ∃ b, b = byteV h c := ⟨_, rfl⟩
        rw [← hbb] at hY hS HRR
        have hbb8 := UInt8.toNat_lt b
        clear hbb
        go_wp2_with fail
        refine hR0.mono ?_
        rintro e w1 ⟨rfl, h1, hb⟩
        have HW1 := Lib.hid (HW.out.read (by rw [nextP_in hl]; exact h1) hb)
        rw [nextP_in hl] at HW1
        clear hR0 h1 hb
        go_wp2_with fail
        refine (hO _).mono ?_
        rintro e w2 ⟨rfl, he⟩
        obtain rfl := he.symm
        clear hO
        go_wp2_with fail
        refine (hY _).mono ?_
        rintro e w2 ⟨rfl, he⟩
        obtain rfl := he.symm
        go_wp2_with fail
        refine (hS _).mono ?_
        rintro e w2 ⟨rfl, he⟩
        obtain rfl := he.symm
        go_wp2_with fail
        refine (hY _).mono ?_
        rintro e w2 ⟨rfl, he⟩
        obtain rfl := he.symm
        clear hS hY
        obtain ⟨v', w', hr, HW2⟩ := HW1.out.push b hs (by omega)
        have HW2 := Lib.hid HW2
        go_wp2_with (first | (at_builtin; refine wpList_append_run rfl (.tmp 62) (.tmp 67) 62 62 rfl _ _ rfl rfl v' w' hr ?_; clear hr) | (apply wp_goto; change ∃ m, m < _ ∧ _))
        have hzE := HZZ.out
        subst hzE
        exact ⟨s.src.size - (k + 1) + 1, by omega, k + 1, h, acc ++ [b], v', (c.toNat : Int), ⟨_, _, _, _, _, _, _, _, _, _, _, _, _, _, _, _, _, _, _, _, _, _, _, _, _, _, _, _, _, _, _, _, _, _, _, _, _, _, _, _, _, _, _, _, _, _, _, _, _, _, _, _, _, _, _, _, _, _, _, _, _, _, _, _, _, _, _, _, _, rfl⟩, HW2.out, .inr ⟨.inr (.inl rfl), rfl, m + 1, (by have := HM.out; omega), (by rw [HRR.out]; unfold wCons stOf; simp [Nat.add_comm, Nat.add_left_comm, Nat.add_assoc])⟩⟩
    | false =>
      rw [w2_n (by rw [hlo]; simp)] at hR
      rw [hlo] at hO
      have HRR := Lib.hid hR
      clear hR hlo
      go_wp2_with fail
      refine hR0.mono ?_
      rintro e w1 ⟨rfl, h1, hb⟩
      have HW1 := Lib.hid (HW.out.read (by rw [nextP_in hl]; exact h1) hb)
      rw [nextP_in hl] at HW1
      clear hR0 h1 hb
      go_wp2_with fail
      refine (hO _).mono ?_
      rintro e w2 ⟨rfl, he⟩
      obtain rfl := he.symm
      clear hO
      go_wp2_with fail
      refine wp_label (show Exit.then _ _ .normal _ _ from ?_)
      have hzE := HZZ.out
      subst hzE
      rename_i KK aK
      exact aK _ _ (word_wrong w g s R hs _ (k + 1) h acc v (c.toNat : Int) _ w1 ⟨_, _, _, _, _, _, _, _, _, _, _, _, _, _, _, _, _, _, _, _, _, _, _, _, _, _, _, _, _, _, _, _, _, _, _, _, _, _, _, _, _, _, _, _, _, _, _, _, _, _, _, _, _, _, _, _, _, _, _, _, _, _, _, _, _, _, _, _, _, rfl⟩ HW1.out (by rw [HRR.out, if_neg (by omega)]))
  · have hkk : k = s.src.size := by omega
    rw [List.drop_of_length_le (by omega), wordW_nil] at hR
    rw [hereI_end (by omega), nextP_end hl] at hR0
    have HRR := Lib.hid hR
    clear hR hge
    go_wp2_with fail
    refine hR0.mono ?_
    rintro e w1 ⟨rfl, h1, hb⟩
    have HW1 := Lib.hid (HW.out.read (by rw [nextP_end hl]; exact h1) hb)
    rw [nextP_end hl] at HW1
    clear hR0 h1 hb
    have hO := fun wx => isOneOf_any (-1) lowS (by omega) (by omega) wx
    rw [show oneI (-1) lowS = false from rfl] at hO
    go_wp2_with fail
    refine (hO _).mono ?_
    rintro e w2 ⟨rfl, he⟩
    obtain rfl := he.symm
    clear hO
    go_wp2_with fail
    refine wp_label (show Exit.then _ _ .normal _ _ from ?_)
    have hzE := HZZ.out
    subst hzE
    rename_i KK aK
    exact aK _ _ (word_wrong w g s R hs _ k h acc v (-1) _ w1 ⟨_, _, _, _, _, _, _, _, _, _, _, _, _, _, _, _, _, _, _, _, _, _, _, _, _, _, _, _, _, _, _, _, _, _, _, _, _, _, _, _, _, _, _, _, _, _, _, _, _, _, _, _, _, _, _, _, _, _, _, _, _, _, _, _, _, _, _, _, _, rfl⟩ HW1.out (by rw [HRR.out, if_pos rfl]))
end Go.Proofs.Ytonbfcpbgkpbaaa
