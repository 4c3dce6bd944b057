/- recipe's scanner.skip: its contract. -/
import Derived.Test.YtonbfcpbgkpbaaaQScope
namespace Go.Proofs.Ytonbfcpbgkpbaaa
open Go.RowKit Go.Sort Go.Joins
set_option linter.unusedVariables false
set_option linter.unusedSimpArgs false
set_option maxRecDepth 100000
/-- The code of a scope that is a body. -/
def scopeB (f : Func) : Code := match f.body with
  | some (.scope c) => c
  | _ => .skip
def FSk (g : Nat) (a : Act) : Prop := ∃ t1 t2 t3 t4 t5 t6 t7 t8 t9 t10 t11 t12 t13 t14 t15 t16 t17 t18 t19 t20 t21 t22 t23 t24 t25 t26 t27 t28 t29 t30 t31 t32 t33, a = ⟨#[.pointer (some ⟨g, 0, none⟩), t1, t2, t3, t4, t5, t6, t7, t8, t9, t10, t11, t12, t13, t14, t15, t16, t17, t18, t19, t20, t21, t22, t23, t24, t25, t26, t27, t28, t29, t30, t31, t32, t33], []⟩
def mSk (r : Bool) (l : List UInt8) (k : Nat) : Nat := if r = true then (if hereI l k = 10 ∨ hereI l k = -1 then 3 * (l.length - k) + 2 else 3 * (l.length - k)) else 3 * (l.length - k) + 1
theorem mSk_false (l : List UInt8) (k : Nat) : mSk false l k = 3 * (l.length - k) + 1 := rfl
theorem mSk_end {l : List UInt8} {k : Nat} (h : hereI l k = 10 ∨ hereI l k = -1) : mSk true l k = 3 * (l.length - k) + 2 := by unfold mSk; rw [if_pos rfl, if_pos h]
theorem mSk_in {l : List UInt8} {k : Nat} (h : ¬ (hereI l k = 10 ∨ hereI l k = -1)) : mSk true l k = 3 * (l.length - k) := by unfold mSk; rw [if_pos rfl, if_neg h]
theorem mSk_le (l : List UInt8) (k : Nat) : mSk true l k ≤ 3 * (l.length - k) + 2 := by
  by_cases h : hereI l k = 10 ∨ hereI l k = -1
  · rw [mSk_end h]; omega
  · rw [mSk_in h]; omega
def JSk (w : World) (g : Nat) (s : PZ) (f n lb : Nat) (a : Act) (wr : World) : Prop :=
  FSk g a ∧ ∃ (r : Bool) (k : Nat), lb = (if r = true then 1 else 0) ∧ n = mSk r (tl s.src) k ∧ k ≤ s.src.size ∧ k + skipN r ((tl s.src).drop k) = f ∧ PB wr g { s with p := k } ∧ But g w.heap.size w wr
abbrev SkQ (w : World) (g : Nat) (s : PZ) (f : Nat) : Exit → Act → World → Prop := bodyPost Try.prog Try.f60 fun e w' => e = .returned (.tuple #[]) ∧ PB w' g { s with p := f } ∧ But g w.heap.size w w'
def restQ (c : Code) (l : Nat) : Code := match findLabel c l with
  | some (.seq _ c) => c
  | _ => .skip
theorem drop_cons (l : List UInt8) (k : Nat) (h : k < l.length) : l.drop k = l[k] :: l.drop (k + 1) := List.drop_eq_getElem_cons h
set_option maxHeartbeats 4000000 in
theorem skip_step (w : World) (g : Nat) (s : PZ) (f : Nat) (hs : s.src.size ≤ 4194304) (n lb : Nat) (a : Act) (wr : World) (h : JSk w g s f n lb a wr) :
    ∃ rest, findLabel (scopeB Try.f60) lb = some (.seq .skip rest) ∧ rest.wp Try.prog (viaL (fun l' a' w' => ∃ m, m < n ∧ JSk w g s f m l' a' w') (SkQ w g s f)) a wr := by
  obtain ⟨⟨t1, t2, t3, t4, t5, t6, t7, t8, t9, t10, t11, t12, t13, t14, t15, t16, t17, t18, t19, t20, t21, t22, t23, t24, t25, t26, t27, t28, t29, t30, t31, t32, t33, rfl⟩, r, k, rfl, rfl, hk, hf, hP, hB⟩ := h
  have hlt := hP.lt
  have hH := here_any g { s with p := k } wr hP hk (by simp only; omega)
  simp only at hH
  have hge := hereI_ge (tl s.src) k
  have hk4 : k ≤ 4194304 := by omega
  cases r with
  | false =>
    rw [mSk_false]
    refine ⟨_, rfl, ?_⟩
    by_cases hl : k < s.src.size
    · have hkl : k < (tl s.src).length := by simpa using hl
      rw [drop_cons _ k hkl, skipN, if_neg (by decide)] at hf
      have hc := hereI_at hkl
      have hb8 := UInt8.toNat_lt ((tl s.src)[k])
      obtain ⟨c, hcc⟩ : ∃ c, c = (tl s.src)[k] := ⟨_, rfl⟩
      rw [← hcc] at hf hc hb8
      rw [hc] at hH
      have hO := fun wx => isOneOf_any (c.toNat : Int) blankS (by omega) (by omega) wx
      rw [oneI_blank] at hO
      have HC := Lib.hid hc
      clear hcc hc hge
      by_cases hbl : blnkB c = true
      · rw [if_pos hbl] at hf
        rw [hbl] at hO
        have HF := Lib.hid hf
        clear hf hbl
        go_wp2_with fail
        refine hH.mono ?_
        rintro e w1 ⟨rfl, hb⟩
        have h1 := hP.below hb hlt
        have c1 := h1.c1
        have f1 := h1.free 1
        simp only at c1
        clear hH
        go_wp2_with fail
        refine (hO _).mono ?_
        rintro e w2 ⟨rfl, he⟩
        obtain rfl := he.symm
        clear hO
        go_wp2_with (apply wp_goto; change ∃ m, m < _ ∧ _)
        exact ⟨mSk false (tl s.src) (k + 1), (by rw [mSk_false, tl_len]; omega), ⟨_, _, _, _, _, _, _, _, _, _, _, _, _, _, _, _, _, _, _, _, _, _, _, _, _, _, _, _, _, _, _, _, _, rfl⟩, false, k + 1, rfl, mSk_false _ _, by omega, (by have := HF.out; omega), h1.setP (k + 1), (hB.trans (But.of_below (hb.mono hB.size))).setCell _ _⟩
      · rw [if_neg hbl] at hf
        have hbl : blnkB c = false := by simpa using hbl
        rw [hbl] at hO
        by_cases h35 : c.toNat = 35
        · rw [if_pos h35] at hf
          have hd : ((c.toNat : Int) == 35) = true := by simp [h35]
          have HF := Lib.hid hf
          have H35 := Lib.hid h35
          clear hf hbl h35
          go_wp2_with fail
          refine hH.mono ?_
          rintro e w1 ⟨rfl, hb⟩
          have h1 := hP.below hb hlt
          clear hH
          go_wp2_with fail
          refine (hO _).mono ?_
          rintro e w2 ⟨rfl, he⟩
          obtain rfl := he.symm
          clear hO
          go_wp2_with (apply wp_goto; change ∃ m, m < _ ∧ _)
          have hne : ¬ (hereI (tl s.src) k = 10 ∨ hereI (tl s.src) k = -1) := by rw [HC.out, H35.out]; decide
          refine ⟨mSk true (tl s.src) k, ?_, ⟨_, _, _, _, _, _, _, _, _, _, _, _, _, _, _, _, _, _, _, _, _, _, _, _, _, _, _, _, _, _, _, _, _, rfl⟩, true, k, rfl, rfl, hk, ?_, h1, hB.trans (But.of_below (hb.mono hB.size))⟩
          · rw [mSk_in hne]; omega
          · have := HF.out
            have e10 : ¬ ((tl s.src)[k]).toNat = 10 := by
              have h2 := HC.out
              rw [hereI_at hkl] at h2
              have h3 := H35.out
              omega
            rw [drop_cons _ k hkl, skipN, if_pos rfl, if_neg e10]
            omega
        · rw [if_neg h35] at hf
          have hd : ((c.toNat : Int) == 35) = false := by simp; omega
          have HF := Lib.hid hf
          clear hf hbl h35
          go_wp2_with fail
          refine hH.mono ?_
          rintro e w1 ⟨rfl, hb⟩
          have h1 := hP.below hb hlt
          clear hH
          go_wp2_with fail
          refine (hO _).mono ?_
          rintro e w2 ⟨rfl, he⟩
          obtain rfl := he.symm
          clear hO
          go_wp2_with fail
          rw [viaL_ret]
          refine bodyPost_ret (results_none rfl _ _ _) rfl ?_
          exact ⟨rfl, (by have e := HF.out; rw [Nat.add_zero] at e; rw [← e]; exact h1), hB.trans (But.of_below (hb.mono hB.size))⟩
    · have hke : k = s.src.size := by omega
      have hc := hereI_end (l := tl s.src) (k := k) (by simp; omega)
      rw [hc] at hH
      have hf2 : k = f := by
        rw [List.drop_of_length_le (by simp; omega)] at hf
        exact hf
      have HF := Lib.hid hf2
      have hO := fun wx => isOneOf_any (-1) blankS (by omega) (by omega) wx
      rw [show oneI (-1) blankS = false from rfl] at hO
      clear hf hf2 hc hke
      go_wp2_with fail
      refine hH.mono ?_
      rintro e w1 ⟨rfl, hb⟩
      have h1 := hP.below hb hlt
      clear hH
      go_wp2_with fail
      refine (hO _).mono ?_
      rintro e w2 ⟨rfl, he⟩
      obtain rfl := he.symm
      clear hO
      go_wp2_with fail
      rw [viaL_ret]
      refine bodyPost_ret (results_none rfl _ _ _) rfl ?_
      exact ⟨rfl, (by rw [← HF.out]; exact h1), hB.trans (But.of_below (hb.mono hB.size))⟩
  | true =>
    refine ⟨_, rfl, ?_⟩
    by_cases hl : k < s.src.size
    · have hkl : k < (tl s.src).length := by simpa using hl
      rw [drop_cons _ k hkl, skipN, if_pos rfl] at hf
      have hc := hereI_at hkl
      have hb8 := UInt8.toNat_lt ((tl s.src)[k])
      obtain ⟨c, hcc⟩ : ∃ c, c = (tl s.src)[k] := ⟨_, rfl⟩
      rw [← hcc] at hf hc hb8
      rw [hc] at hH
      have HC := Lib.hid hc
      have HCC := Lib.hid hcc
      clear hcc hc hge
      by_cases h10 : c.toNat = 10
      · rw [if_pos h10] at hf
        have hd : ((c.toNat : Int) == 10) = true := by simp [h10]
        have HF := Lib.hid hf
        have H10 := Lib.hid h10
        clear hf h10
        go_wp2_with fail
        refine hH.mono ?_
        rintro e w1 ⟨rfl, hb⟩
        have h1 := hP.below hb hlt
        clear hH
        go_wp2_with (apply wp_goto; change ∃ m, m < _ ∧ _)
        have hin : hereI (tl s.src) k = 10 ∨ hereI (tl s.src) k = -1 := by rw [HC.out, H10.out]; decide
        refine ⟨mSk false (tl s.src) k, ?_, ⟨_, _, _, _, _, _, _, _, _, _, _, _, _, _, _, _, _, _, _, _, _, _, _, _, _, _, _, _, _, _, _, _, _, rfl⟩, false, k, rfl, rfl, hk, ?_, h1, hB.trans (But.of_below (hb.mono hB.size))⟩
        · rw [mSk_end hin, mSk_false]; omega
        · have hbl : blnkB ((tl s.src)[k]) = true := by rw [← HCC.out]; unfold blnkB; rw [H10.out]; rfl
          rw [drop_cons _ k hkl, skipN, if_neg (by decide), if_pos hbl]
          exact HF.out
      · rw [if_neg h10] at hf
        have hd : ((c.toNat : Int) == 10) = false := by simp; omega
        have hd2 : ((c.toNat : Int) == -1) = false := by simp
        have HF := Lib.hid hf
        have H10 := Lib.hid h10
        clear hf h10
        go_wp2_with fail
        refine hH.mono ?_
        rintro e w1 ⟨rfl, hb⟩
        have h1 := hP.below hb hlt
        have c1 := h1.c1
        have f1 := h1.free 1
        simp only at c1
        clear hH
        go_wp2_with (apply wp_goto; change ∃ m, m < _ ∧ _)
        have hin : ¬ (hereI (tl s.src) k = 10 ∨ hereI (tl s.src) k = -1) := by rw [HC.out]; have := H10.out; omega
        refine ⟨mSk true (tl s.src) (k + 1), ?_, ⟨_, _, _, _, _, _, _, _, _, _, _, _, _, _, _, _, _, _, _, _, _, _, _, _, _, _, _, _, _, _, _, _, _, rfl⟩, true, k + 1, rfl, rfl, by omega, ?_, h1.setP (k + 1), (hB.trans (But.of_below (hb.mono hB.size))).setCell _ _⟩
        · rw [mSk_in hin]
          have := mSk_le (tl s.src) (k + 1)
          omega
        · have := HF.out
          omega
    · have hc := hereI_end (l := tl s.src) (k := k) (by simp; omega)
      rw [hc] at hH
      rw [List.drop_of_length_le (by simp; omega)] at hf
      have hf : k = f := hf
      have HF := Lib.hid hf
      have HC := Lib.hid hc
      clear hf hc
      go_wp2_with fail
      refine hH.mono ?_
      rintro e w1 ⟨rfl, hb⟩
      have h1 := hP.below hb hlt
      clear hH
      go_wp2_with (apply wp_goto; change ∃ m, m < _ ∧ _)
      refine ⟨mSk false (tl s.src) k, ?_, ⟨_, _, _, _, _, _, _, _, _, _, _, _, _, _, _, _, _, _, _, _, _, _, _, _, _, _, _, _, _, _, _, _, _, rfl⟩, false, k, rfl, rfl, hk, ?_, h1, hB.trans (But.of_below (hb.mono hB.size))⟩
      · rw [mSk_end (.inr HC.out), mSk_false]; omega
      · rw [List.drop_of_length_le (by simp; omega)]
        exact HF.out
theorem skip_any (g : Nat) (s : PZ) (w : World) (h : PB w g s) (hp : s.p ≤ s.src.size) (hs : s.src.size ≤ 4194304) :
    Calls Try.prog 60 #[.pointer (some ⟨g, 0, none⟩)] w fun e w' => e = .returned (.tuple #[]) ∧ PB w' g { s with p := s.p + skipN false ((tl s.src).drop s.p) } ∧ But g w.heap.size w w' := by
  go_enter Try.func60, Try.ntmps60
  change Code.wp Try.prog _ (SkQ w g s (s.p + skipN false ((tl s.src).drop s.p))) _ _
  apply on_enter
  change Code.wp Try.prog _ (viaL (On Try.prog (scopeB Try.f60) _) _) _ _
  refine wp_seq (wp_label (show Exit.then _ _ .normal _ _ from ?_))
  have hJ : JSk w g s (s.p + skipN false ((tl s.src).drop s.p)) (mSk false (tl s.src) s.p) 0 ⟨#[.pointer (some ⟨g, 0, none⟩), undef, undef, undef, undef, undef, undef, undef, undef, undef, undef, undef, undef, undef, undef, undef, undef, undef, undef, undef, undef, undef, undef, undef, undef, undef, undef, undef, undef, undef, undef, undef, undef, undef], []⟩ w := ⟨⟨_, _, _, _, _, _, _, _, _, _, _, _, _, _, _, _, _, _, _, _, _, _, _, _, _, _, _, _, _, _, _, _, _, rfl⟩, false, s.p, rfl, rfl, hp, rfl, h, But.refl _ _ _⟩
  obtain ⟨rest, hf, hr⟩ := skip_step w g s _ hs _ _ _ _ hJ
  have hc : rest = restQ (scopeB Try.f60) 0 := by
    have : findLabel (scopeB Try.f60) 0 = some (.seq .skip (restQ (scopeB Try.f60) 0)) := rfl
    rw [this] at hf
    injection hf with hf
    injection hf with _ hf
    exact hf.symm
  subst hc
  exact Code.wp_mono (viaL_mono fun l' a' w' ⟨m, _, hm⟩ => on_all (JSk w g s _) (skip_step w g s _ hs) m l' a' w' hm) hr
end Go.Proofs.Ytonbfcpbgkpbaaa
