/- recipe's scanner.word: from label 1 on. -/
import Derived.Test.YtonbfcpbgkpbaaaQWord0
namespace Go.Proofs.Ytonbfcpbgkpbaaa
open Go.RowKit Go.Sort Go.Joins
set_option linter.unusedVariables false
set_option linter.unusedSimpArgs false
set_option maxRecDepth 100000
set_option maxHeartbeats 8000000 in
theorem word_l1 (w : World) (g : Nat) (s : PZ) (R : Nat × Nat × List UInt8) (hs : s.src.size ≤ 4194304) (k : Nat) (h : UInt8) (acc : List UInt8) (v : Value) (c0 : Int) (a : Act) (wr : World) (m : Nat)
    (hF : FWo g w.heap.size s.p h v c0 a) (hW : Wst w g s k acc v wr) (hm : s.p + 1 + m = k) (hR : R = ((wordW 0 h ((tl s.src).drop k)).1, m + (wordW 0 h ((tl s.src).drop k)).2.1, acc ++ (wordW 0 h ((tl s.src).drop k)).2.2)) :
    (restQ (scopeQ Try.f62) 1).wp Try.prog (viaL (fun l' a' w' => ∃ n, n < s.src.size - k + 1 ∧ JWo w g s R n l' a' w') (WoQ w g s R)) a wr := by
  have hR0 := read_any g { s with p := k } wr hW.pb hW.hk hs
  simp only at hR0
  have hks := hW.hk
  have hle := hW.le
  have hge := hereI_ge (tl s.src) k
  have htl := tl_len s.src
  obtain ⟨t1, t7, t8, t9, t10, t11, t12, t13, t14, t15, t16, t17, t18, t19, t20, t21, t22, t23, t24, t25, t26, t27, t28, t29, t30, t31, t32, t33, t34, t35, t36, t37, t38, t39, t40, t41, t42, t43, t44, t45, t46, t47, t48, t49, t50, t51, t52, t53, t54, t55, t56, t57, t58, t59, t60, t61, t62, t63, t64, t65, t66, t67, t68, t69, t70, t71, t72, t73, t74, rfl⟩ := hF
  obtain ⟨z, hzz⟩ : ∃ z, z = w.heap.size := ⟨_, rfl⟩
  rw [← hzz]
  have HZZ := Lib.hid hzz
  have HW := Lib.hid hW
  have HM := Lib.hid hm
  have hmk : m ≤ k := by omega
  clear hzz hW hm
  change Code.wp _ (Code.seq _ _) _ _ _
  by_cases hl : k < (tl s.src).length
  · rw [drop_cons _ k hl] at hR
    rw [hereI_at hl, nextP_in hl] at hR0
    obtain ⟨c, hcc⟩ : ∃ c, c = (tl s.src)[k] := ⟨_, rfl⟩
    rw [← hcc] at hR hR0
    have hb8 := UInt8.toNat_lt c
    clear hcc hge
    by_cases h34 : c.toNat = 34
    · rw [w0_q h34] at hR
      have hd : ((c.toNat : Int) == 34) = true := by simp [h34]
      have HRR := Lib.hid hR
      clear hR h34
      go_wp2_with fail
      refine hR0.mono ?_
      rintro e w1 ⟨rfl, h1, hb⟩
      have HW1 := Lib.hid (HW.out.read (by rw [nextP_in hl]; exact h1) hb)
      rw [nextP_in hl] at HW1
      clear hR0 h1 hb
      have hcv := text_of HW1.out.own
      have hz1 := HW1.out.z
      rw [← HZZ.out] at hz1
      have x0 := cell_of_block hz1 0
      have x1 := cell_of_block hz1 1
      have x2 := cell_of_block hz1 2
      have f0 := fun j => unfrozen_of_block hz1 j
      have hgz : g ≠ z := by have := HW1.out.hg; have := HZZ.out; omega
      have HZ3 := Lib.hid (tok_store hz1 4 (s.p : Nat) (textOf acc))
      have HP3 := Lib.hid (HW1.out.pb.three hgz (.int .i64 4) (.int .i64 (s.p : Nat)) (.string (textOf acc)))
      have HB3 := Lib.hid (HW1.out.but.three (z := z) (by have := HZZ.out; omega) (.int .i64 4) (.int .i64 (s.p : Nat)) (.string (textOf acc)))
      have HWT : Hid (wordT R = acc) := Lib.hid (by unfold wordT; rw [HRR.out, if_pos rfl, List.append_nil])
      clear hz1
      go_wp2_with fail
      rw [viaL_ret]
      obtain ⟨WF, hWF⟩ : ∃ WF, WF = (((w1.setCell ⟨z, 0, none⟩ (.int .i64 4)).setCell ⟨z, 1, none⟩ (.int .i64 (s.p : Nat))).setCell ⟨z, 2, none⟩ (.string (textOf acc))) := ⟨_, rfl⟩
      rw [← hWF] at HZ3 HP3 HB3 ⊢
      have y0 := cell_of_block HZ3.out 0
      have y1 := cell_of_block HZ3.out 1
      have y2 := cell_of_block HZ3.out 2
      exact bodyPost_ret (v := .agg #[.int .i64 4, .int .i64 (s.p : Nat), .string (textOf acc)]) (by simp [results, Try.results62, go_sem, y0, y1, y2]) rfl ⟨k + 1, (by rw [HWT.out, HRR.out]; rfl), (fun _ => by rw [HRR.out]; have := HM.out; show k + 1 = s.p + 1 + (m + 1); omega), (by omega), HP3.out, HB3.out⟩
    · have hd : ((c.toNat : Int) == 34) = false := by simp; omega
      by_cases h92 : c.toNat = 92
      · rw [w0_b h92] at hR
        have hd2 : ((c.toNat : Int) == 92) = true := by simp [h92]
        have HRR := Lib.hid hR
        clear hR h34 h92
        go_wp2_with fail
        refine hR0.mono ?_
        rintro e w1 ⟨rfl, h1, hb⟩
        have HW1 := Lib.hid (HW.out.read (by rw [nextP_in hl]; exact h1) hb)
        rw [nextP_in hl] at HW1
        clear hR0 h1 hb
        go_wp2_with (apply wp_goto; change ∃ m, m < _ ∧ _)
        have hzE := HZZ.out
        subst hzE
        exact ⟨s.src.size - (k + 1) + 1, by omega, k + 1, h, acc, v, (c.toNat : Int), ⟨_, _, _, _, _, _, _, _, _, _, _, _, _, _, _, _, _, _, _, _, _, _, _, _, _, _, _, _, _, _, _, _, _, _, _, _, _, _, _, _, _, _, _, _, _, _, _, _, _, _, _, _, _, _, _, _, _, _, _, _, _, _, _, _, _, _, _, _, _, rfl⟩, HW1.out, .inr ⟨.inl rfl, rfl, m + 1, (by have := HM.out; omega), (by rw [HRR.out]; unfold wStep stOf; simp [Nat.add_comm, Nat.add_left_comm, Nat.add_assoc])⟩⟩
      · have hd2 : ((c.toNat : Int) == 92) = false := by simp; omega
        have hS := fun wx => isShown_any (c.toNat : Int) wx
        rw [shown_eq] at hS
        cases hsh : shownB c with
        | true =>
          rw [w0_s h34 h92 hsh] at hR
          rw [hsh] at hS
          have HRR := Lib.hid hR
          clear hR h34 h92 hsh
          go_wp2_with fail
          refine hR0.mono ?_
          rintro e w1 ⟨rfl, h1, hb⟩
          have HW1 := Lib.hid (HW.out.read (by rw [nextP_in hl]; exact h1) hb)
          rw [nextP_in hl] at HW1
          clear hR0 h1 hb
          go_wp2_with fail
          refine (hS _).mono ?_
          rintro e w2 ⟨rfl, he⟩
          obtain rfl := he.symm
          clear hS
          obtain ⟨v', w', hr, HW2⟩ := HW1.out.push c hs (by omega)
          have HW2 := Lib.hid HW2
          go_wp2_with (first | (at_builtin; refine wpList_append_run rfl (.tmp 28) (.tmp 31) 62 62 rfl _ _ rfl rfl v' w' hr ?_; clear hr) | (apply wp_goto; change ∃ m, m < _ ∧ _))
          have hzE := HZZ.out
          subst hzE
          exact ⟨s.src.size - (k + 1) + 1, by omega, k + 1, h, acc ++ [c], v', (c.toNat : Int), ⟨_, _, _, _, _, _, _, _, _, _, _, _, _, _, _, _, _, _, _, _, _, _, _, _, _, _, _, _, _, _, _, _, _, _, _, _, _, _, _, _, _, _, _, _, _, _, _, _, _, _, _, _, _, _, _, _, _, _, _, _, _, _, _, _, _, _, _, _, _, rfl⟩, HW2.out, .inr ⟨.inr (.inl rfl), rfl, m + 1, (by have := HM.out; omega), (by rw [HRR.out]; unfold wCons stOf; simp [Nat.add_comm, Nat.add_left_comm, Nat.add_assoc])⟩⟩
        | false =>
          rw [w0_n h34 h92 hsh] at hR
          rw [hsh] at hS
          have HRR := Lib.hid hR
          clear hR h34 h92 hsh
          go_wp2_with fail
          refine hR0.mono ?_
          rintro e w1 ⟨rfl, h1, hb⟩
          have HW1 := Lib.hid (HW.out.read (by rw [nextP_in hl]; exact h1) hb)
          rw [nextP_in hl] at HW1
          clear hR0 h1 hb
          go_wp2_with fail
          refine (hS _).mono ?_
          rintro e w2 ⟨rfl, he⟩
          obtain rfl := he.symm
          clear hS
          go_wp2_with (apply wp_goto; change ∃ m, m < _ ∧ _)
          have hzE := HZZ.out
          subst hzE
          exact ⟨0, by omega, k + 1, h, acc, v, (c.toNat : Int), ⟨_, _, _, _, _, _, _, _, _, _, _, _, _, _, _, _, _, _, _, _, _, _, _, _, _, _, _, _, _, _, _, _, _, _, _, _, _, _, _, _, _, _, _, _, _, _, _, _, _, _, _, _, _, _, _, _, _, _, _, _, _, _, _, _, _, _, _, _, _, rfl⟩, HW1.out, .inl ⟨rfl, rfl, by rw [HRR.out, if_neg (by omega)]⟩⟩
  · have hkk : k = s.src.size := by omega
    rw [List.drop_of_length_le (by omega), wordW_nil] at hR
    rw [hereI_end (by omega), nextP_end hl] at hR0
    have HRR := Lib.hid hR
    clear hR hge
    go_wp2_with fail
    refine hR0.mono ?_
    rintro e w1 ⟨rfl, h1, hb⟩
    have HW1 := Lib.hid (HW.out.read (by rw [nextP_end hl]; exact h1) hb)
    rw [nextP_end hl] at HW1
    clear hR0 h1 hb
    have hS := fun wx => isShown_any (-1) wx
    go_wp2_with fail
    refine (hS _).mono ?_
    rintro e w2 ⟨rfl, he⟩
    obtain rfl := he.symm
    clear hS
    go_wp2_with (apply wp_goto; change ∃ m, m < _ ∧ _)
    have hzE := HZZ.out
    subst hzE
    exact ⟨0, by omega, k, h, acc, v, -1, ⟨_, _, _, _, _, _, _, _, _, _, _, _, _, _, _, _, _, _, _, _, _, _, _, _, _, _, _, _, _, _, _, _, _, _, _, _, _, _, _, _, _, _, _, _, _, _, _, _, _, _, _, _, _, _, _, _, _, _, _, _, _, _, _, _, _, _, _, _, _, rfl⟩, HW1.out, .inl ⟨rfl, rfl, by rw [HRR.out]; rfl⟩⟩
end Go.Proofs.Ytonbfcpbgkpbaaa
