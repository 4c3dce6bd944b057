/- recipe's scanner.next: names, numbers -/
import Derived.Test.YtonbfcpbgkpbaaaQNext0
namespace Go.Proofs.Ytonbfcpbgkpbaaa
open Go.RowKit Go.Sort Go.Joins
set_option linter.unusedVariables false
set_option linter.unusedSimpArgs false
set_option maxRecDepth 100000
def headP (p : UInt8 → Bool) : List UInt8 → Bool
  | [] => false
  | c :: _ => p c
theorem small_here (l : List UInt8) (k : Nat) : (decide (97 ≤ hereI l k) && decide (hereI l k ≤ 122)) = headP smallB (l.drop k) := by
  by_cases h : k < l.length
  · rw [hereI_at h, drop_cons l k h]
    unfold headP smallB
    rw [Bool.eq_iff_iff]
    simp only [Bool.and_eq_true, decide_eq_true_eq]
    omega
  · rw [hereI_end (by omega), List.drop_of_length_le (by omega)]
    rfl
theorem digit_here (l : List UInt8) (k : Nat) : (decide (48 ≤ hereI l k) && decide (hereI l k ≤ 57)) = headP digitB (l.drop k) := by
  by_cases h : k < l.length
  · rw [hereI_at h, drop_cons l k h]
    unfold headP digitB
    rw [Bool.eq_iff_iff]
    simp only [Bool.and_eq_true, decide_eq_true_eq]
    omega
  · rw [hereI_end (by omega), List.drop_of_length_le (by omega)]
    rfl
theorem cap_here (l : List UInt8) (k : Nat) : oneI (hereI l k) capS = headP capB (l.drop k) := by
  by_cases h : k < l.length
  · rw [hereI_at h, drop_cons l k h, oneI_cap]
    rfl
  · rw [hereI_end (by omega), List.drop_of_length_le (by omega)]
    rfl
theorem headP_lt {p : UInt8 → Bool} {l : List UInt8} {k : Nat} (h : headP p (l.drop k) = true) : k < l.length := by
  rcases Nat.lt_or_ge k l.length with hh | hh
  · exact hh
  · rw [List.drop_of_length_le hh] at h; cases h
theorem tw_in {p : UInt8 → Bool} {l : List UInt8} {k : Nat} (h : headP p (l.drop k) = true) : ∃ c, p c = true ∧ l[k]? = some c ∧ (l.drop k).takeWhile p = c :: (l.drop (k + 1)).takeWhile p := by
  have hk := headP_lt h
  rw [drop_cons l k hk] at h ⊢
  exact ⟨l[k], h, List.getElem?_eq_getElem hk, List.takeWhile_cons_of_pos h⟩
theorem tw_out {p : UInt8 → Bool} {l : List UInt8} {k : Nat} (h : headP p (l.drop k) = false) : (l.drop k).takeWhile p = [] := by
  cases hd : l.drop k with
  | nil => rfl
  | cons c r =>
    rw [hd] at h
    exact List.takeWhile_cons_of_neg (by rw [show p c = false from h]; decide)
theorem ten_in {l : List UInt8} {k f : Nat} (h : headP digitB (l.drop k) = true) : tenDigits (f + 1) (l.drop k) = 1 + tenDigits f (l.drop (k + 1)) := by
  have hk := headP_lt h
  rw [drop_cons l k hk] at h ⊢
  rw [tenDigits, if_pos (show digitB l[k] = true from h)]
theorem ten_out {l : List UInt8} {k f : Nat} (h : headP digitB (l.drop k) = false) : tenDigits f (l.drop k) = 0 := by
  cases f with
  | zero => rfl
  | succ f =>
    cases hd : l.drop k with
    | nil => rfl
    | cons c r =>
      rw [hd] at h
      rw [tenDigits, if_neg (by rw [show digitB c = false from h]; decide)]
set_option maxHeartbeats 8000000 in
theorem next_l1 (w : World) (g : Nat) (s : PZ) (q : Nat) (R : R3) (hs : s.src.size ≤ 4194304) (n : Nat) (hn : 2 ≤ n) (k kd : Nat) (c : Int) (a : Act) (wr : World)
    (hF : FNe g w.heap.size q kd c a) (hW : Nst w g s q k wr) (hR : R = bounded 2 (k - q) ((tl s.src).drop q)) :
    (restQ (scopeQ Try.f41) 1).wp Try.prog (viaL (fun l' a' w' => ∃ m, m < n ∧ JNe w g s q R m l' a' w') (NeQ w g s q R)) a wr := by
  obtain ⟨t, rfl⟩ := hF.open
  obtain ⟨z, hzz⟩ : ∃ z, z = w.heap.size := ⟨_, rfl⟩
  rw [← hzz]
  have HZZ := Lib.hid hzz
  have HW := Lib.hid hW
  have hq := hW.hq
  have hk := hW.hk
  have HR := Lib.hid hR
  clear hzz hW hF hR
  change Code.wp _ (Code.seq _ _) _ _ _
  go_wp2_with (apply wp_goto; change ∃ m, m < _ ∧ _)
  have hzE := HZZ.out
  subst hzE
  exact ⟨1, by omega, k, 2, c, ⟨rfl, rfl, rfl, rfl, rfl, rfl, rfl⟩, HW.out, .inr (.inl ⟨rfl, rfl, HR.out⟩)⟩
set_option maxHeartbeats 8000000 in
theorem next_l0 (w : World) (g : Nat) (s : PZ) (q : Nat) (R : R3) (hs : s.src.size ≤ 4194304) (k kd : Nat) (c : Int) (a : Act) (wr : World)
    (hF : FNe g w.heap.size q kd c a) (hW : Nst w g s q k wr) (hR : R = bounded 1 (k - q + (((tl s.src).drop k).takeWhile smallB).length) ((tl s.src).drop q)) :
    (restQ (scopeQ Try.f41) 0).wp Try.prog (viaL (fun l' a' w' => ∃ m, m < s.src.size - k + 3 ∧ JNe w g s q R m l' a' w') (NeQ w g s q R)) a wr := by
  have H0 := here_any g { s with p := k } wr hW.pb hW.hk (by simp only; omega)
  simp only at H0
  have H1 := fun wx => isSmall_any (hereI (tl s.src) k) wx
  rw [small_here] at H1
  have htl := tl_len s.src
  obtain ⟨t, rfl⟩ := hF.open
  obtain ⟨z, hzz⟩ : ∃ z, z = w.heap.size := ⟨_, rfl⟩
  rw [← hzz]
  have HZZ := Lib.hid hzz
  have HW := Lib.hid hW
  have hq := hW.hq
  have hk := hW.hk
  generalize hereI (tl s.src) k = ch at *
  clear hzz hW hF
  change Code.wp _ (Code.seq _ _) _ _ _
  cases hb : headP smallB ((tl s.src).drop k) with
  | true =>
    obtain ⟨cc, -, -, htw⟩ := tw_in hb
    have hlt := headP_lt hb
    rw [htw, List.length_cons] at hR
    rw [hb] at H1
    have HR := Lib.hid hR
    clear hR hb htw
    have hk4 : k ≤ 4194304 := by omega
    go_wp2_with fail
    refine H0.mono ?_
    rintro e w1 ⟨rfl, hb⟩
    have HW1 := Lib.hid (HW.out.adv hb)
    have c1 := HW1.out.pb.c1
    have f1 := HW1.out.pb.free 1
    simp only at c1
    clear H0 hb
    go_wp2_with fail
    refine (H1 _).mono ?_
    rintro e w2 ⟨rfl, he⟩
    obtain rfl := he.symm
    clear H1
    go_wp2_with (apply wp_goto; change ∃ m, m < _ ∧ _)
    have hzE := HZZ.out
    subst hzE
    exact ⟨s.src.size - (k + 1) + 3, by omega, k + 1, kd, c, ⟨rfl, rfl, rfl, rfl, rfl, rfl, rfl⟩, HW1.out.set (k + 1) (by omega) (by omega), .inr (.inr (.inr (.inl ⟨rfl, rfl, by rw [HR.out]; congr 1; omega⟩)))⟩
  | false =>
    rw [tw_out hb, List.length_nil, Nat.add_zero] at hR
    rw [hb] at H1
    have HR := Lib.hid hR
    clear hR hb
    go_wp2_with fail
    refine H0.mono ?_
    rintro e w1 ⟨rfl, hb⟩
    have HW1 := Lib.hid (HW.out.adv hb)
    clear H0 hb
    go_wp2_with fail
    refine (H1 _).mono ?_
    rintro e w2 ⟨rfl, he⟩
    obtain rfl := he.symm
    clear H1
    go_wp2_with (apply wp_goto; change ∃ m, m < _ ∧ _)
    have hzE := HZZ.out
    subst hzE
    exact ⟨1, by omega, k, 1, c, ⟨rfl, rfl, rfl, rfl, rfl, rfl, rfl⟩, HW1.out, .inr (.inl ⟨rfl, rfl, HR.out⟩)⟩
set_option maxHeartbeats 8000000 in
theorem next_l2 (w : World) (g : Nat) (s : PZ) (q : Nat) (R : R3) (hs : s.src.size ≤ 4194304) (k kd : Nat) (c : Int) (a : Act) (wr : World)
    (hF : FNe g w.heap.size q kd c a) (hW : Nst w g s q k wr) (h10 : k - q ≤ 10) (hR : R = bounded 2 (k - q + tenDigits (10 - (k - q)) ((tl s.src).drop k)) ((tl s.src).drop q)) :
    (restQ (scopeQ Try.f41) 2).wp Try.prog (viaL (fun l' a' w' => ∃ m, m < s.src.size - k + 3 ∧ JNe w g s q R m l' a' w') (NeQ w g s q R)) a wr := by
  have H0 := here_any g { s with p := k } wr hW.pb hW.hk (by simp only; omega)
  simp only at H0
  have H1 := fun wx => isDigit_any (hereI (tl s.src) k) wx
  rw [digit_here] at H1
  have htl := tl_len s.src
  obtain ⟨t, rfl⟩ := hF.open
  obtain ⟨z, hzz⟩ : ∃ z, z = w.heap.size := ⟨_, rfl⟩
  rw [← hzz]
  have HZZ := Lib.hid hzz
  have HW := Lib.hid hW
  have hq := hW.hq
  have hk := hW.hk
  generalize hereI (tl s.src) k = ch at *
  clear hzz hW hF
  change Code.wp _ (Code.seq _ _) _ _ _
  have hk4 : k ≤ 4194304 := by omega
  cases hb : headP digitB ((tl s.src).drop k) with
  | true =>
    have hlt := headP_lt hb
    rw [hb] at H1
    by_cases h9 : k - q < 10
    · obtain ⟨f, hf⟩ : ∃ f, 10 - (k - q) = f + 1 := ⟨9 - (k - q), by omega⟩
      rw [hf, ten_in hb] at hR
      have hd : decide ((k : Int) - (q : Int) < 10) = true := decide_eq_true (by omega)
      have HR := Lib.hid hR
      have HF := Lib.hid hf
      clear hR hb hf
      go_wp2_with fail
      refine H0.mono ?_
      rintro e w1 ⟨rfl, hb⟩
      have HW1 := Lib.hid (HW.out.adv hb)
      have c1 := HW1.out.pb.c1
      have f1 := HW1.out.pb.free 1
      simp only at c1
      clear H0 hb
      go_wp2_with fail
      refine (H1 _).mono ?_
      rintro e w2 ⟨rfl, he⟩
      obtain rfl := he.symm
      clear H1
      go_wp2_with (apply wp_goto; change ∃ m, m < _ ∧ _)
      have hzE := HZZ.out
      subst hzE
      exact ⟨s.src.size - (k + 1) + 3, by omega, k + 1, kd, c, ⟨rfl, rfl, rfl, rfl, rfl, rfl, rfl⟩, HW1.out.set (k + 1) (by omega) (by omega), .inr (.inr (.inr (.inr (.inl ⟨rfl, rfl, by omega, by rw [HR.out, show 10 - (k + 1 - q) = f by have := HF.out; omega]; congr 1; omega⟩))))⟩
    · rw [show 10 - (k - q) = 0 by omega, show tenDigits 0 ((tl s.src).drop k) = 0 from rfl, Nat.add_zero] at hR
      have hd : decide ((k : Int) - (q : Int) < 10) = false := decide_eq_false (by omega)
      have HR := Lib.hid hR
      clear hR hb
      go_wp2_with fail
      refine H0.mono ?_
      rintro e w1 ⟨rfl, hb⟩
      have HW1 := Lib.hid (HW.out.adv hb)
      have c1 := HW1.out.pb.c1
      simp only at c1
      clear H0 hb
      go_wp2_with fail
      refine (H1 _).mono ?_
      rintro e w2 ⟨rfl, he⟩
      obtain rfl := he.symm
      clear H1
      go_wp2_with fail
      refine wp_label (show Exit.then _ _ .normal _ _ from ?_)
      rename_i KK aK
      have hzE := HZZ.out
      subst hzE
      exact aK _ _ (next_l1 w g s q R hs _ (by omega) k kd c _ w1 ⟨rfl, rfl, rfl, rfl, rfl, rfl, rfl⟩ HW1.out HR.out)
  | false =>
    rw [ten_out hb, Nat.add_zero] at hR
    rw [hb] at H1
    have HR := Lib.hid hR
    clear hR hb
    go_wp2_with fail
    refine H0.mono ?_
    rintro e w1 ⟨rfl, hb⟩
    have HW1 := Lib.hid (HW.out.adv hb)
    clear H0 hb
    go_wp2_with fail
    refine (H1 _).mono ?_
    rintro e w2 ⟨rfl, he⟩
    obtain rfl := he.symm
    clear H1
    go_wp2_with fail
    refine wp_label (show Exit.then _ _ .normal _ _ from ?_)
    rename_i KK aK
    have hzE := HZZ.out
    subst hzE
    exact aK _ _ (next_l1 w g s q R hs _ (by omega) k kd c _ w1 ⟨rfl, rfl, rfl, rfl, rfl, rfl, rfl⟩ HW1.out HR.out)
end Go.Proofs.Ytonbfcpbgkpbaaa
