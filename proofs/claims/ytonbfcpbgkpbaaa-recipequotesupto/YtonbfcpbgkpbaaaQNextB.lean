/- recipe's scanner.next: runes -/
import Derived.Test.YtonbfcpbgkpbaaaQNextA
namespace Go.Proofs.Ytonbfcpbgkpbaaa
open Go.RowKit Go.Sort Go.Joins
set_option linter.unusedVariables false
set_option linter.unusedSimpArgs false
set_option maxRecDepth 100000
set_option maxHeartbeats 8000000 in
theorem next_l3 (w : World) (g : Nat) (s : PZ) (q : Nat) (R : R3) (hs : s.src.size ≤ 4194304) (k : Nat) (c : Int) (a : Act) (wr : World)
    (hF : FNe g w.heap.size q 6 c a) (hW : Nst w g s q k wr) (h2 : q + 2 ≤ k) (hR : digB R ((tl s.src).drop q) (tl s.src) q k) :
    (restQ (scopeQ Try.f41) 3).wp Try.prog (viaL (fun l' a' w' => ∃ m, m < s.src.size - k + 3 ∧ JNe w g s q R m l' a' w') (NeQ w g s q R)) a wr := by
  have H0 := here_any g { s with p := k } wr hW.pb hW.hk (by simp only; omega)
  simp only at H0
  have hge := hereI_ge (tl s.src) k
  have H1 := fun wx => isOneOf_any (hereI (tl s.src) k) capS hge.1 hge.2 wx
  rw [cap_here] at H1
  have htl := tl_len s.src
  obtain ⟨D, hDc, hR, hD⟩ := hR
  obtain ⟨t, rfl⟩ := hF.open
  obtain ⟨z, hzz⟩ : ∃ z, z = w.heap.size := ⟨_, rfl⟩
  rw [← hzz]
  have HZZ := Lib.hid hzz
  have HW := Lib.hid hW
  have hq := hW.hq
  have hk := hW.hk
  generalize hereI (tl s.src) k = ch at *
  clear hzz hW hF
  change Code.wp _ (Code.seq _ _) _ _ _
  have hk4 : k ≤ 4194304 := by omega
  cases hb : headP capB ((tl s.src).drop k) with
  | true =>
    obtain ⟨cc, -, hcc, htw⟩ := tw_in hb
    have hlt := headP_lt hb
    rw [htw] at hD
    rw [hb] at H1
    have hD2 : D = ((tl s.src).drop (q + 2)).take (k + 1 - (q + 2)) ++ ((tl s.src).drop (k + 1)).takeWhile capB := by
      rw [hD, show k + 1 - (q + 2) = k - (q + 2) + 1 by omega, List.take_add_one, List.getElem?_drop, show q + 2 + (k - (q + 2)) = k by omega, hcc]
      simp
    have HR : Hid (digB R ((tl s.src).drop q) (tl s.src) q (k + 1)) := Lib.hid ⟨D, hDc, hR, hD2⟩
    clear hR hb htw hD hD2 hDc hcc
    go_wp2_with fail
    refine H0.mono ?_
    rintro e w1 ⟨rfl, hb⟩
    have HW1 := Lib.hid (HW.out.adv hb)
    have c1 := HW1.out.pb.c1
    have f1 := HW1.out.pb.free 1
    simp only at c1
    clear H0 hb
    go_wp2_with fail
    refine (H1 _).mono ?_
    rintro e w2 ⟨rfl, he⟩
    obtain rfl := he.symm
    clear H1
    go_wp2_with (apply wp_goto; change ∃ m, m < _ ∧ _)
    have hzE := HZZ.out
    subst hzE
    exact ⟨s.src.size - (k + 1) + 3, by omega, k + 1, 6, c, ⟨rfl, rfl, rfl, rfl, rfl, rfl, rfl⟩, HW1.out.set (k + 1) (by omega) (by omega), .inr (.inr (.inr (.inr (.inr ⟨rfl, rfl, by omega, rfl, HR.out⟩))))⟩
  | false =>
    rw [tw_out hb, List.append_nil] at hD
    rw [hb] at H1
    have hDl : 2 + D.length = k - q := by
      rw [hD, List.length_take, List.length_drop]
      omega
    rw [hDl] at hR
    have hex : tl (s.src.extract (q + 2) k) = D := by
      rw [hD, tl_cut]
    have H2 := fun wx => isRune_any (s.src.extract (q + 2) k) (by simp; omega) (by rw [hex]; exact hDc) wx
    rw [hex] at H2
    have HR := Lib.hid hR
    have q2 : (q : Int) + 2 ≤ (k : Int) := by omega
    clear hR hb hD hDl hex hDc
    go_wp2_with fail
    refine H0.mono ?_
    rintro e w1 ⟨rfl, hb⟩
    have HW1 := Lib.hid (HW.out.adv hb)
    have c0 := HW1.out.pb.c0
    have c1 := HW1.out.pb.c1
    simp only at c0 c1
    clear H0 hb
    go_wp2_with fail
    refine (H1 _).mono ?_
    rintro e w2 ⟨rfl, he⟩
    obtain rfl := he.symm
    clear H1
    go_wp2_with fail
    refine wp_region_quiet_tail (C := fun w' => ∃ n, w' = w1.drewN n) 11 (by kernel_rfl) (by kernel_rfl) ⟨1, rfl⟩ ?_
    simp only [List.take_succ_cons, List.take_zero, List.drop_succ_cons, List.drop_zero]
    repeat (go_big_quiet_step (fail))
    refine wpQuiet_nil ?_
    intro _ hw'
    obtain ⟨nq, hw''⟩ := hw'
    subst hw''
    have HW2 := Lib.hid (HW1.out.adv (below_drewN (Below.refl _ _) nq))
    clear c0 c1
    cases hrn : runeDB D with
    | true =>
      rw [hrn] at H2 HR
      clear hrn
      go_wp2_with fail
      refine (H2 _).mono ?_
      rintro e w3 ⟨rfl, hb3⟩
      have HW3 := Lib.hid (HW2.out.adv hb3)
      clear H2 hb3
      go_wp2_with fail
      refine wp_label (show Exit.then _ _ .normal _ _ from ?_)
      rename_i KK aK
      have hzE := HZZ.out
      subst hzE
      exact aK _ _ (next_l5 w g s q R hs _ k 3 c _ w3 ⟨rfl, rfl, rfl, rfl, rfl, rfl, rfl⟩ HW3.out (by rw [HR.out]; rfl))
    | false =>
      rw [hrn] at H2 HR
      clear hrn
      go_wp2_with fail
      refine (H2 _).mono ?_
      rintro e w3 ⟨rfl, hb3⟩
      have HW3 := Lib.hid (HW2.out.adv hb3)
      clear H2 hb3
      go_wp2_with fail
      refine wp_label (show Exit.then _ _ .normal _ _ from ?_)
      rename_i KK aK
      have hzE := HZZ.out
      subst hzE
      exact aK _ _ (next_l5 w g s q R hs _ k 6 c _ w3 ⟨rfl, rfl, rfl, rfl, rfl, rfl, rfl⟩ HW3.out (by rw [HR.out]; rfl))
theorem next_step (w : World) (g : Nat) (s : PZ) (q : Nat) (R : R3) (hs : s.src.size ≤ 4194304) (n lb : Nat) (a : Act) (wr : World) (hJ : JNe w g s q R n lb a wr) :
    ∃ rest, findLabel (scopeQ Try.f41) lb = some (.seq .skip rest) ∧ rest.wp Try.prog (viaL (fun l' a' w' => ∃ m, m < n ∧ JNe w g s q R m l' a' w') (NeQ w g s q R)) a wr := by
  obtain ⟨k, kd, c, hF, hW, hc⟩ := hJ
  rcases hc with ⟨rfl, rfl, hR⟩ | ⟨rfl, rfl, hR⟩ | ⟨rfl, rfl, hR⟩ | ⟨rfl, rfl, hR⟩ | ⟨rfl, rfl, h10, hR⟩ | ⟨rfl, rfl, h2, rfl, hR⟩
  · exact ⟨_, rfl, next_l4 w g s q R hs _ k kd c a wr hF hW hR⟩
  · exact ⟨_, rfl, next_l5 w g s q R hs _ k kd c a wr hF hW hR⟩
  · exact ⟨_, rfl, next_l1 w g s q R hs _ (Nat.le_refl _) k kd c a wr hF hW hR⟩
  · exact ⟨_, rfl, next_l0 w g s q R hs k kd c a wr hF hW hR⟩
  · exact ⟨_, rfl, next_l2 w g s q R hs k kd c a wr hF hW h10 hR⟩
  · exact ⟨_, rfl, next_l3 w g s q R hs k c a wr hF hW h2 hR⟩
end Go.Proofs.Ytonbfcpbgkpbaaa
