/- The document's own Meet: its contract. -/
import Derived.Test.YtlnebbciefdpoaaDoorSMeet
import Derived.Test.YtlnebbciefdpoaaDoorSRefRight
namespace Go.Proofs.YtlnebbciefdpoaaDoor
open Go.RowKit Go.Sort
/-- The spans ahead of i meet none of b; span i meets none ahead of j. -/
def Apart (a b : List Sp) (i j : Nat) : Prop := ∀ (p : Nat) (x : Sp) (q : Nat) (y : Sp), a[p]? = some x → b[q]? = some y → (p < i ∨ p = i ∧ q < j) → ovB x y = false
theorem Apart.next {a b : List Sp} {i j : Nat} {x y : Sp} (h : Apart a b i j) (hx : a[i]? = some x) (hy : b[j]? = some y) (ho : ovB x y = false) : Apart a b i (j + 1) := by
  intro p u q v hu hv hpq
  by_cases e : p = i ∧ q = j
  · obtain ⟨rfl, rfl⟩ := e
    rw [hx] at hu
    rw [hy] at hv
    cases hu
    cases hv
    exact ho
  · exact h p u q v hu hv (by omega)
theorem Apart.row {a b : List Sp} {i j : Nat} (h : Apart a b i j) (hj : b.length ≤ j) : Apart a b (i + 1) 0 := by
  intro p u q v hu hv hpq
  have := (List.getElem?_eq_some_iff.1 hv).1
  exact h p u q v hu hv (by omega)
theorem Apart.some {a b : List Sp} {i j : Nat} {x y : Sp} (h : Apart a b i j) (hx : a[i]? = some x) (hy : b[j]? = some y) (ho : ovB x y = true) : meetV (meetA a b) = .tuple #[.int .i64 (i : Nat), .bool true] := by
  rw [meetA_some hx (fun p u hp hu => meets_false fun q v hv => h p u q v hu hv (.inl hp)) (meets_true.2 ⟨j, y, hy, ho⟩)]; rfl
theorem Apart.none {a b : List Sp} {j : Nat} (h : Apart a b a.length j) : meetV (meetA a b) = .tuple #[.int .i64 0, .bool false] := by
  rw [meetA_none (fun p u hu => meets_false fun q v hv => h p u q v hu hv (.inl (List.getElem?_eq_some_iff.1 hu).1))]; rfl
set_option maxHeartbeats 4000000 in
theorem refMeet_any (a b : Option Addr) (ca cb : Nat) (A B : List Sp) (w : World) (hla : A.length ≤ 9223372036854775807) (hlb : B.length ≤ 9223372036854775807) (hA : SPS w a A) (hB : SPS w b B) (hRa : Rgt A) (hRb : Rgt B) :
    Calls Tryd.prog 68 #[.slice a A.length ca, .slice b B.length cb] w fun e w' => e = .returned (meetV (meetA A B)) ∧ Below w.heap.size w w' := by
  obtain ⟨R, hR⟩ : ∃ R, R = meetV (meetA A B) := ⟨_, rfl⟩
  have HR : Hid (R = meetV (meetA A B)) := hR
  rw [← hR]
  clear hR
  obtain ⟨n, hn⟩ : ∃ n, n = A.length := ⟨_, rfl⟩
  have HN : Hid (n = A.length) := hn
  obtain ⟨m, hm⟩ : ∃ m, m = B.length := ⟨_, rfl⟩
  have HM : Hid (m = B.length) := hm
  rw [← hn] at hla ⊢
  rw [← hm] at hlb ⊢
  clear hn hm
  go_enter Tryd.func68, Tryd.ntmps68
  go_wp2
  go_loopw [6] (fun i wr => ∃ p : Nat, p ≤ n ∧ i = .int .i64 p ∧ Below w.heap.size w wr ∧ Apart A B p 0) (fun i _ => n - (intOf i).toNat)
  case atStart => exact ⟨0, Nat.zero_le _, rfl, Below.refl _ _, fun p x q y _ _ h => by omega⟩
  case round =>
    obtain ⟨p, hp, rfl, hbr, hP⟩ := hrel
    by_cases hlp : p < n
    · have dp : decide (p < n) = true := decide_eq_true hlp
      have hpl : p < A.length := by rw [← HN.out]; exact hlp
      rcases hA with h | ⟨ba, oa, rfl, hA⟩
      · subst h; simp at hpl
      obtain ⟨x, hx⟩ : ∃ x, A[p]? = some x := ⟨_, List.getElem?_eq_getElem hpl⟩
      obtain ⟨x0, x1⟩ := hA p x hx
      have HX : Hid (A[p]? = some x) := hx
      clear hA hx hpl
      go_wp2_with fail
      go_loopw [7] (fun j wi => ∃ q : Nat, q ≤ m ∧ j = .int .i64 q ∧ Below w.heap.size w wi ∧ Apart A B p q) (fun j _ => m - (intOf j).toNat)
      case atStart => exact ⟨0, Nat.zero_le _, rfl, hbr, hP⟩
      case round =>
        clear hbr hP
        obtain ⟨q, hq, rfl, hbr, hP⟩ := hrel
        by_cases hlq : q < m
        · have hql : q < B.length := by rw [← HM.out]; exact hlq
          rcases hB with h | ⟨bb, ob, rfl, hB⟩
          · subst h; simp at hql
          obtain ⟨y, hy⟩ : ∃ y, B[q]? = some y := ⟨_, List.getElem?_eq_getElem hql⟩
          obtain ⟨y0, y1⟩ := (hB q y hy).below hbr
          obtain ⟨x0, x1⟩ := SpAt.below ⟨x0, x1⟩ hbr
          have HY : Hid (B[q]? = some y) := hy
          obtain ⟨r1, r2, r3⟩ := hRa.row HX.out
          obtain ⟨s1, s2, s3⟩ := hRb.row hy
          clear hB hy hql
          by_cases ho : max x.lo y.lo ≤ min x.hi y.hi
          · have hE : Hid (R = .tuple #[.int .i64 (p : Nat), .bool true]) := by show R = _; rw [HR.out]; exact hP.some HX.out HY.out (by unfold ovB; exact decide_eq_true ho)
            by_cases m1 : x.lo < y.lo
            · have d1 : decide (x.lo < y.lo) = true := decide_eq_true m1
              by_cases m2 : y.hi < x.hi
              · have d2 : decide (y.hi < x.hi) = true := decide_eq_true m2
                have d3 : decide (y.lo ≤ y.hi) = true := decide_eq_true (by omega)
                have HRn : Hid (runeB y.lo = true) := s1
                clear m1 m2 ho r1 r2 r3 s1 s2 s3
                go_wp2_with fail
                refine (refRune_any y.lo _).mono ?_
                rintro e w1 ⟨rfl, he⟩
                obtain rfl := he.symm
                rw [HRn.out]
                go_wp2_with fail
                exact bodyPost_ret (v := .tuple #[.int .i64 (p : Nat), .bool true]) (by simp [results, Tryd.results68, go_sem]) rfl ⟨by rw [hE.out], hbr⟩
              · have d2 : decide (y.hi < x.hi) = false := decide_eq_false m2
                have d3 : decide (y.lo ≤ x.hi) = true := decide_eq_true (by omega)
                have HRn : Hid (runeB y.lo = true) := s1
                clear m1 m2 ho r1 r2 r3 s1 s2 s3
                go_wp2_with fail
                refine (refRune_any y.lo _).mono ?_
                rintro e w1 ⟨rfl, he⟩
                obtain rfl := he.symm
                rw [HRn.out]
                go_wp2_with fail
                exact bodyPost_ret (v := .tuple #[.int .i64 (p : Nat), .bool true]) (by simp [results, Tryd.results68, go_sem]) rfl ⟨by rw [hE.out], hbr⟩
            · have d1 : decide (x.lo < y.lo) = false := decide_eq_false m1
              by_cases m2 : y.hi < x.hi
              · have d2 : decide (y.hi < x.hi) = true := decide_eq_true m2
                have d3 : decide (x.lo ≤ y.hi) = true := decide_eq_true (by omega)
                have HRn : Hid (runeB x.lo = true) := r1
                clear m1 m2 ho r1 r2 r3 s1 s2 s3
                go_wp2_with fail
                refine (refRune_any x.lo _).mono ?_
                rintro e w1 ⟨rfl, he⟩
                obtain rfl := he.symm
                rw [HRn.out]
                go_wp2_with fail
                exact bodyPost_ret (v := .tuple #[.int .i64 (p : Nat), .bool true]) (by simp [results, Tryd.results68, go_sem]) rfl ⟨by rw [hE.out], hbr⟩
              · have d2 : decide (y.hi < x.hi) = false := decide_eq_false m2
                have d3 : decide (x.lo ≤ x.hi) = true := decide_eq_true (by omega)
                have HRn : Hid (runeB x.lo = true) := r1
                clear m1 m2 ho r1 r2 r3 s1 s2 s3
                go_wp2_with fail
                refine (refRune_any x.lo _).mono ?_
                rintro e w1 ⟨rfl, he⟩
                obtain rfl := he.symm
                rw [HRn.out]
                go_wp2_with fail
                exact bodyPost_ret (v := .tuple #[.int .i64 (p : Nat), .bool true]) (by simp [results, Tryd.results68, go_sem]) rfl ⟨by rw [hE.out], hbr⟩
          · have hP' := hP.next HX.out HY.out (by unfold ovB; exact decide_eq_false ho)
            by_cases m1 : x.lo < y.lo
            · have d1 : decide (x.lo < y.lo) = true := decide_eq_true m1
              by_cases m2 : y.hi < x.hi
              · have d2 : decide (y.hi < x.hi) = true := decide_eq_true m2
                have d3 : decide (y.lo ≤ y.hi) = false := decide_eq_false (by omega)
                clear m1 m2 ho r1 r2 r3 s1 s2 s3
                go_wp2_with fail
                exact ⟨⟨q + 1, by omega, by go_num, hbr, hP'⟩, by simp only [intOf]; omega⟩
              · have d2 : decide (y.hi < x.hi) = false := decide_eq_false m2
                have d3 : decide (y.lo ≤ x.hi) = false := decide_eq_false (by omega)
                clear m1 m2 ho r1 r2 r3 s1 s2 s3
                go_wp2_with fail
                exact ⟨⟨q + 1, by omega, by go_num, hbr, hP'⟩, by simp only [intOf]; omega⟩
            · have d1 : decide (x.lo < y.lo) = false := decide_eq_false m1
              by_cases m2 : y.hi < x.hi
              · have d2 : decide (y.hi < x.hi) = true := decide_eq_true m2
                have d3 : decide (x.lo ≤ y.hi) = false := decide_eq_false (by omega)
                clear m1 m2 ho r1 r2 r3 s1 s2 s3
                go_wp2_with fail
                exact ⟨⟨q + 1, by omega, by go_num, hbr, hP'⟩, by simp only [intOf]; omega⟩
              · have d2 : decide (y.hi < x.hi) = false := decide_eq_false m2
                have d3 : decide (x.lo ≤ x.hi) = false := decide_eq_false (by omega)
                clear m1 m2 ho r1 r2 r3 s1 s2 s3
                go_wp2_with fail
                exact ⟨⟨q + 1, by omega, by go_num, hbr, hP'⟩, by simp only [intOf]; omega⟩
        · have hqm : q = m := by omega
          subst hqm
          have hP' := hP.row (by rw [HM.out]; exact Nat.le_refl _)
          go_wp2_with fail
          exact ⟨⟨p + 1, by omega, by go_num, hbr, hP'⟩, by simp only [intOf]; omega⟩
    · have hpn : p = n := by omega
      subst hpn
      have hE : Hid (R = .tuple #[.int .i64 0, .bool false]) := by show R = _; rw [HR.out]; exact Apart.none (by rw [← HN.out]; exact hP)
      go_wp2_with fail
      exact bodyPost_ret (v := .tuple #[.int .i64 0, .bool false]) (by simp [results, Tryd.results68, go_sem]) rfl ⟨by rw [hE.out], hbr⟩
end Go.Proofs.YtlnebbciefdpoaaDoor
