import Derived.Test.YtjbdhakogbolkaaDoorJ0
import Derived.Test.YtjbdhakogbolkaaDoorJ1
import Derived.Test.YtjbdhakogbolkaaDoorJ2
import Derived.Test.YtjbdhakogbolkaaDoorJ3
import Derived.Test.YtjbdhakogbolkaaDoorJ7
section
/- The document's own Meet: its contract. -/
namespace Go.Proofs.YtjbdhakogbolkaaDoor
open Go.RowKit Go.Sort
/-- The spans ahead of i meet none of b; span i meets none ahead of j. -/
def Apart (a b : List Sp) (i j : Nat) : Prop := ∀ (p : Nat) (x : Sp) (q : Nat) (y : Sp), a[p]? = some x → b[q]? = some y → (p < i ∨ p = i ∧ q < j) → ovB x y = false
theorem Apart.next {a b : List Sp} {i j : Nat} {x y : Sp} (h : Apart a b i j) (hx : a[i]? = some x) (hy : b[j]? = some y) (ho : ovB x y = false) : Apart a b i (j + 1) := by
  intro p u q v hu hv hpq
  by_cases e : p = i ∧ q = j
  · obtain ⟨rfl, rfl⟩ := e
    rw [hx] at hu
    rw [hy] at hv
    cases hu
    cases hv
    exact ho
  · exact h p u q v hu hv (by omega)
theorem Apart.row {a b : List Sp} {i j : Nat} (h : Apart a b i j) (hj : b.length ≤ j) : Apart a b (i + 1) 0 := by
  intro p u q v hu hv hpq
  have := (List.getElem?_eq_some_iff.1 hv).1
  exact h p u q v hu hv (by omega)
theorem Apart.some {a b : List Sp} {i j : Nat} {x y : Sp} (h : Apart a b i j) (hx : a[i]? = some x) (hy : b[j]? = some y) (ho : ovB x y = true) : meetV (meetA a b) = .tuple #[.int .i64 (i : Nat), .bool true] := by
  rw [meetA_some hx (fun p u hp hu => meets_false fun q v hv => h p u q v hu hv (.inl hp)) (meets_true.2 ⟨j, y, hy, ho⟩)]; rfl
theorem Apart.none {a b : List Sp} {j : Nat} (h : Apart a b a.length j) : meetV (meetA a b) = .tuple #[.int .i64 0, .bool false] := by
  rw [meetA_none (fun p u hu => meets_false fun q v hv => h p u q v hu hv (.inl (List.getElem?_eq_some_iff.1 hu).1))]; rfl
set_option maxHeartbeats 4000000 in
theorem refMeet_any (a b : Option Addr) (ca cb : Nat) (A B : List Sp) (w : World) (hla : A.length ≤ 9223372036854775807) (hlb : B.length ≤ 9223372036854775807) (hA : SPS w a A) (hB : SPS w b B) (hRa : Rgt A) (hRb : Rgt B) :
    Calls Tryd.prog 67 #[.slice a A.length ca, .slice b B.length cb] w fun e w' => e = .returned (meetV (meetA A B)) ∧ Below w.heap.size w w' := by
  obtain ⟨R, hR⟩ : ∃ R, R = meetV (meetA A B) := ⟨_, rfl⟩
  have HR : Hid (R = meetV (meetA A B)) := hR
  rw [← hR]
  clear hR
  obtain ⟨n, hn⟩ : ∃ n, n = A.length := ⟨_, rfl⟩
  have HN : Hid (n = A.length) := hn
  obtain ⟨m, hm⟩ : ∃ m, m = B.length := ⟨_, rfl⟩
  have HM : Hid (m = B.length) := hm
  rw [← hn] at hla ⊢
  rw [← hm] at hlb ⊢
  clear hn hm
  go_enter Tryd.func67, Tryd.ntmps67
  go_wp2
  go_loopw [6] (fun i wr => ∃ p : Nat, p ≤ n ∧ i = .int .i64 p ∧ Below w.heap.size w wr ∧ Apart A B p 0) (fun i _ => n - (intOf i).toNat)
  case atStart => exact ⟨0, Nat.zero_le _, rfl, Below.refl _ _, fun p x q y _ _ h => by omega⟩
  case round =>
    obtain ⟨p, hp, rfl, hbr, hP⟩ := hrel
    by_cases hlp : p < n
    · have dp : decide (p < n) = true := decide_eq_true hlp
      have hpl : p < A.length := by rw [← HN.out]; exact hlp
      rcases hA with h | ⟨ba, oa, rfl, hA⟩
      · subst h; simp at hpl
      obtain ⟨x, hx⟩ : ∃ x, A[p]? = some x := ⟨_, List.getElem?_eq_getElem hpl⟩
      obtain ⟨x0, x1⟩ := hA p x hx
      have HX : Hid (A[p]? = some x) := hx
      clear hA hx hpl
      go_wp2_with fail
      go_loopw [7] (fun j wi => ∃ q : Nat, q ≤ m ∧ j = .int .i64 q ∧ Below w.heap.size w wi ∧ Apart A B p q) (fun j _ => m - (intOf j).toNat)
      case atStart => exact ⟨0, Nat.zero_le _, rfl, hbr, hP⟩
      case round =>
        clear hbr hP
        obtain ⟨q, hq, rfl, hbr, hP⟩ := hrel
        by_cases hlq : q < m
        · have hql : q < B.length := by rw [← HM.out]; exact hlq
          rcases hB with h | ⟨bb, ob, rfl, hB⟩
          · subst h; simp at hql
          obtain ⟨y, hy⟩ : ∃ y, B[q]? = some y := ⟨_, List.getElem?_eq_getElem hql⟩
          obtain ⟨y0, y1⟩ := (hB q y hy).below hbr
          obtain ⟨x0, x1⟩ := SpAt.below ⟨x0, x1⟩ hbr
          have HY : Hid (B[q]? = some y) := hy
          obtain ⟨r1, r2, r3⟩ := hRa.row HX.out
          obtain ⟨s1, s2, s3⟩ := hRb.row hy
          clear hB hy hql
          by_cases ho : max x.lo y.lo ≤ min x.hi y.hi
          · have hE : Hid (R = .tuple #[.int .i64 (p : Nat), .bool true]) := by show R = _; rw [HR.out]; exact hP.some HX.out HY.out (by unfold ovB; exact decide_eq_true ho)
            by_cases m1 : x.lo < y.lo
            · have d1 : decide (x.lo < y.lo) = true := decide_eq_true m1
              by_cases m2 : y.hi < x.hi
              · have d2 : decide (y.hi < x.hi) = true := decide_eq_true m2
                have d3 : decide (y.lo ≤ y.hi) = true := decide_eq_true (by omega)
                have HRn : Hid (runeB y.lo = true) := s1
                clear m1 m2 ho r1 r2 r3 s1 s2 s3
                go_wp2_with fail
                refine (refRune_any y.lo _).mono ?_
                rintro e w1 ⟨rfl, he⟩
                obtain rfl := he.symm
                rw [HRn.out]
                go_wp2_with fail
                exact bodyPost_ret (v := .tuple #[.int .i64 (p : Nat), .bool true]) (by simp [results, Tryd.results67, go_sem]) rfl ⟨by rw [hE.out], hbr⟩
              · have d2 : decide (y.hi < x.hi) = false := decide_eq_false m2
                have d3 : decide (y.lo ≤ x.hi) = true := decide_eq_true (by omega)
                have HRn : Hid (runeB y.lo = true) := s1
                clear m1 m2 ho r1 r2 r3 s1 s2 s3
                go_wp2_with fail
                refine (refRune_any y.lo _).mono ?_
                rintro e w1 ⟨rfl, he⟩
                obtain rfl := he.symm
                rw [HRn.out]
                go_wp2_with fail
                exact bodyPost_ret (v := .tuple #[.int .i64 (p : Nat), .bool true]) (by simp [results, Tryd.results67, go_sem]) rfl ⟨by rw [hE.out], hbr⟩
            · have d1 : decide (x.lo < y.lo) = false := decide_eq_false m1
              by_cases m2 : y.hi < x.hi
              · have d2 : decide (y.hi < x.hi) = true := decide_eq_true m2
                have d3 : decide (x.lo ≤ y.hi) = true := decide_eq_true (by omega)
                have HRn : Hid (runeB x.lo = true) := r1
                clear m1 m2 ho r1 r2 r3 s1 s2 s3
                go_wp2_with fail
                refine (refRune_any x.lo _).mono ?_
                rintro e w1 ⟨rfl, he⟩
                obtain rfl := he.symm
                rw [HRn.out]
                go_wp2_with fail
                exact bodyPost_ret (v := .tuple #[.int .i64 (p : Nat), .bool true]) (by simp [results, Tryd.results67, go_sem]) rfl ⟨by rw [hE.out], hbr⟩
              · have d2 : decide (y.hi < x.hi) = false := decide_eq_false m2
                have d3 : decide (x.lo ≤ x.hi) = true := decide_eq_true (by omega)
                have HRn : Hid (runeB x.lo = true) := r1
                clear m1 m2 ho r1 r2 r3 s1 s2 s3
                go_wp2_with fail
                refine (refRune_any x.lo _).mono ?_
                rintro e w1 ⟨rfl, he⟩
                obtain rfl := he.symm
                rw [HRn.out]
                go_wp2_with fail
                exact bodyPost_ret (v := .tuple #[.int .i64 (p : Nat), .bool true]) (by simp [results, Tryd.results67, go_sem]) rfl ⟨by rw [hE.out], hbr⟩
          · have hP' := hP.next HX.out HY.out (by unfold ovB; exact decide_eq_false ho)
            by_cases m1 : x.lo < y.lo
            · have d1 : decide (x.lo < y.lo) = true := decide_eq_true m1
              by_cases m2 : y.hi < x.hi
              · have d2 : decide (y.hi < x.hi) = true := decide_eq_true m2
                have d3 : decide (y.lo ≤ y.hi) = false := decide_eq_false (by omega)
                clear m1 m2 ho r1 r2 r3 s1 s2 s3
                go_wp2_with fail
                exact ⟨⟨q + 1, by omega, by go_num, hbr, hP'⟩, by simp only [intOf]; omega⟩
              · have d2 : decide (y.hi < x.hi) = false := decide_eq_false m2
                have d3 : decide (y.lo ≤ x.hi) = false := decide_eq_false (by omega)
                clear m1 m2 ho r1 r2 r3 s1 s2 s3
                go_wp2_with fail
                exact ⟨⟨q + 1, by omega, by go_num, hbr, hP'⟩, by simp only [intOf]; omega⟩
            · have d1 : decide (x.lo < y.lo) = false := decide_eq_false m1
              by_cases m2 : y.hi < x.hi
              · have d2 : decide (y.hi < x.hi) = true := decide_eq_true m2
                have d3 : decide (x.lo ≤ y.hi) = false := decide_eq_false (by omega)
                clear m1 m2 ho r1 r2 r3 s1 s2 s3
                go_wp2_with fail
                exact ⟨⟨q + 1, by omega, by go_num, hbr, hP'⟩, by simp only [intOf]; omega⟩
              · have d2 : decide (y.hi < x.hi) = false := decide_eq_false m2
                have d3 : decide (x.lo ≤ x.hi) = false := decide_eq_false (by omega)
                clear m1 m2 ho r1 r2 r3 s1 s2 s3
                go_wp2_with fail
                exact ⟨⟨q + 1, by omega, by go_num, hbr, hP'⟩, by simp only [intOf]; omega⟩
        · have hqm : q = m := by omega
          subst hqm
          have hP' := hP.row (by rw [HM.out]; exact Nat.le_refl _)
          go_wp2_with fail
          exact ⟨⟨p + 1, by omega, by go_num, hbr, hP'⟩, by simp only [intOf]; omega⟩
    · have hpn : p = n := by omega
      subst hpn
      have hE : Hid (R = .tuple #[.int .i64 0, .bool false]) := by show R = _; rw [HR.out]; exact Apart.none (by rw [← HN.out]; exact hP)
      go_wp2_with fail
      exact bodyPost_ret (v := .tuple #[.int .i64 0, .bool false]) (by simp [results, Tryd.results67, go_sem]) rfl ⟨by rw [hE.out], hbr⟩
end Go.Proofs.YtjbdhakogbolkaaDoor
end
section
/- The document's own Check: its contract. -/
namespace Go.Proofs.YtjbdhakogbolkaaDoor
open Go.RowKit Go.Sort Go.Joins
theorem ent_six (A B C : List Sp) : (ent A B C 6).2 = 0 := by
  show (overA A [[]]).2 = 0
  unfold overA
  rw [if_pos (by rw [ovI_nil]; show (-1 : Int) < 0; omega)]
theorem ahead_two (A B : List Sp) (X : List Sp) (i : Nat) : ovI X (ahead A B (i + 1)) = ovI X ([A, B].take i) := by
  unfold ahead
  rw [List.take_succ_cons, ovI_nil]
/-- The three lists, from none on. -/
def Trio (w : World) (g : Nat) (a b c : Option Addr) (ca cb cc : Nat) (A B C : List Sp) : Prop := ∀ j, j < 3 → w.cell? ⟨g, j, none⟩ = some (.slice (adL a b c (j + 1)) (pickL A B C (j + 1)).length (cpL ca cb cc (j + 1)))
theorem Trio.below {w w' : World} {g : Nat} {a b c : Option Addr} {ca cb cc : Nat} {A B C : List Sp} (h : Trio w g a b c ca cb cc A B C) (hb : Below w.heap.size w w') : Trio w' g a b c ca cb cc A B C := fun j hj =>
  (hb.cell (World.block_lt_of_cell? w _ (h j hj))).trans (h j hj)
theorem Trio.new (w : World) (a b c : Option Addr) (ca cb cc : Nat) (A B C : List Sp) (t : TypeId) : Trio (w.alloc (.cells #[.slice a A.length ca, .slice b B.length cb, .slice c C.length cc] t)) w.heap.size a b c ca cb cc A B C := fun j hj => by
  rw [cell_of_block (heap_alloc_new w _)]
  rcases (show j = 0 ∨ j = 1 ∨ j = 2 by omega) with rfl | rfl | rfl <;> rfl
theorem two_get (A B C : List Sp) {j : Nat} (hj : j < 2) : ([A, B] : List (List Sp))[j]? = some (pickL A B C (j + 1)) := by
  rcases (show j = 0 ∨ j = 1 by omega) with rfl | rfl <;> rfl
theorem rgt_pick {A B C : List Sp} (hA : Rgt A) (hB : Rgt B) (hC : Rgt C) (j : Nat) : Rgt (pickL A B C j) := by
  unfold pickL
  split
  · exact hA
  · exact hB
  · exact hC
  · exact rightA_zero rfl
set_option maxRecDepth 100000 in
set_option maxHeartbeats 8000000 in
theorem refCheck_any (a b c : Option Addr) (ca cb cc : Nat) (A B C : List Sp) (w : World) (hA : Lst w a ca A) (hB : Lst w b cb B) (hC : Lst w c cc C) :
    Calls Tryd.prog 47 #[.slice a A.length ca, .slice b B.length cb, .slice c C.length cc] w fun e w' => e = .returned (wrV (checkA A B C)) ∧ Below w.heap.size w w' := by
  obtain ⟨Y0, hY0⟩ : ∃ Y0, Y0 = w.alloc (.cells #[.int .i64 0, .int .i64 0, .int .i64 0] 109) := ⟨_, rfl⟩
  have s0 : Y0.heap.size = w.heap.size + 1 := by rw [hY0]; simp
  have b0 : Below w.heap.size w Y0 := by rw [hY0]; exact (Below.refl _ _).alloc (Nat.le_refl _) _
  have hW0 : Y0.heap[w.heap.size]? = some (.cells #[.int .i64 0, .int .i64 0, .int .i64 0] 109 (0, 0)) := by rw [hY0]; exact heap_alloc_new _ _
  obtain ⟨Y1, hY1⟩ : ∃ Y1, Y1 = Y0.alloc (.cells #[.slice a A.length ca, .slice b B.length cb, .slice c C.length cc] 28) := ⟨_, rfl⟩
  have b01 : Below Y0.heap.size Y0 Y1 := by rw [hY1]; exact (Below.refl _ _).alloc (Nat.le_refl _) _
  have b1 := b0.trans (b01.mono b0.size)
  have hW1 := (b01.block _ (by omega)).trans hW0
  have hT1 : Trio Y1 (w.heap.size + 1) a b c ca cb cc A B C := by rw [hY1, ← s0]; exact Trio.new _ _ _ _ _ _ _ _ _ _ _
  have hL1 := fun j => (four hA hB hC j).below b1
  have hA1 := hA.below b1
  have hB1 := hB.below b1
  have hC1 := hC.below b1
  have s1 : w.heap.size + 1 < Y1.heap.size := by rw [hY1]; simp; omega
  clear hA hB hC hW0 b0 b01
  go_enter Tryd.func47, Tryd.ntmps47
  go_wp2_with fail
  rw [← hY0, ← hY1]
  clear hY0 hY1 s0
  obtain ⟨z, hz⟩ : ∃ z, z = w.heap.size := ⟨_, rfl⟩
  have HZ : Hid (z = w.heap.size) := hz
  rw [← hz] at hT1 hW1 s1 ⊢
  clear hz
  go_loopw [8] (fun v wr => ∃ i : Nat, i ≤ 3 ∧ v = .int .i64 (i : Nat) ∧ Pass A B C i ∧ wr = Y1) (fun v _ => 3 - (intOf v).toNat)
  case atStart => exact ⟨0, by omega, rfl, Pass.zero A B C, rfl⟩
  case round =>
    obtain ⟨i, hi, rfl, hP, rfl⟩ := hrel
    by_cases h3 : i < 3
    · have hc := hT1 i h3
      have hent := ent_many A B C (q := i) h3
      have hbad := check_bad (q := i) (by omega) hP
      rw [hent, show i % 3 + 1 = i + 1 by omega] at hbad
      have hok := fun h => hP.succ (h : (ent A B C i).2 = 0)
      rw [hent] at hok
      obtain ⟨X, hX⟩ : ∃ X, X = pickL A B C (i + 1) := ⟨_, rfl⟩
      rw [← hX] at hc hbad hok
      clear hX hent
      have hd3 : decide ((i : Int) < 3) = true := decide_eq_true (by omega)
      have HP : Hid (Pass A B C i) := hP
      clear hP
      by_cases hm : 512 < X.length
      · have hE := hbad (by unfold manyA; rw [if_pos hm]; simp)
        unfold manyA at hE
        rw [if_pos hm] at hE
        have HE : Hid (checkA A B C = (4, i + 1, 512)) := hE
        have hdm : decide ((512 : Int) < (X.length : Int)) = true := decide_eq_true (by omega)
        have HW1 := hW1
        have x0 := cell_of_block hW1 (i := 0)
        have x1 := cell_of_block hW1 (i := 1)
        have x2 := cell_of_block hW1 (i := 2)
        have f0 := fun j => unfrozen_of_block hW1 j
        clear hE hbad hok hW1
        go_wp2_with fail
        have hfin := wr_set HW1 (u0 := .int .i64 4) (u1 := .int .i64 ((i : Int) + 1)) (u2 := .int .i64 512)
        have hBf := wr_below b1 (g := z) (u0 := .int .i64 4) (u1 := .int .i64 ((i : Int) + 1)) (u2 := .int .i64 512) (by rw [HZ.out]; omega)
        obtain ⟨Wf, hWf⟩ : ∃ Wf, Wf = (((wr.setCell ⟨z, 0, none⟩ (.int .i64 4)).setCell ⟨z, 1, none⟩ (.int .i64 ((i : Int) + 1))).setCell ⟨z, 2, none⟩ (.int .i64 512)) := ⟨_, rfl⟩
        rw [← hWf] at hfin hBf ⊢
        have y0 := cell_of_block hfin (i := 0)
        have y1 := cell_of_block hfin (i := 1)
        have y2 := cell_of_block hfin (i := 2)
        exact bodyPost_ret (v := .agg #[.int .i64 4, .int .i64 ((i : Int) + 1), .int .i64 512]) (by simp [results, Tryd.results47, go_sem, y0, y1, y2]) rfl ⟨by rw [HE.out]; rfl, hBf⟩
      · have hPn := hok (by unfold manyA; rw [if_neg hm])
        have HPN : Hid (Pass A B C (i + 1)) := hPn
        have hdm : decide ((512 : Int) < (X.length : Int)) = false := decide_eq_false (by omega)
        clear hPn hok hbad
        go_wp2_with fail
        exact ⟨⟨i + 1, by omega, by go_num, HPN.out, trivial⟩, by simp only [intOf]; omega⟩
    · have h3' : i = 3 := by omega
      subst h3'
      rw [show ((3 : Nat) : Int) = 3 from rfl]
      have HP : Hid (Pass A B C 3) := hP
      clear hP
      go_wp2_with fail
      obtain ⟨V, hV⟩ : ∃ V, V = wr := ⟨_, rfl⟩
      subst hV
      have hLV := hL1
      clear hL1
      go_loopw [9] (fun v wr => ∃ i : Nat, i ≤ 3 ∧ v = .int .i64 (i : Nat) ∧ Pass A B C (3 + i) ∧ Below V.heap.size V wr) (fun v _ => 3 - (intOf v).toNat)
      case atStart => exact ⟨0, by omega, rfl, HP.out, Below.refl _ _⟩
      case round =>
        clear HP
        obtain ⟨i, hi, rfl, hP, hbr⟩ := hrel
        by_cases h3 : i < 3
        · have hc := (hT1.below hbr) i h3
          have hent := ent_right A B C (q := i) h3
          have hbad := check_bad (q := 3 + i) (by omega) hP
          rw [hent, show (3 + i) % 3 + 1 = i + 1 by omega] at hbad
          have hok := fun h => hP.succ (h : (ent A B C (3 + i)).2 = 0)
          rw [hent] at hok
          have hLi := (hLV (i + 1)).below hbr
          have HR := refRight_any (adL a b c (i + 1)) (cpL ca cb cc (i + 1)) (pickL A B C (i + 1)) wr hLi.len hLi.at'
          obtain ⟨X, hX⟩ : ∃ X, X = pickL A B C (i + 1) := ⟨_, rfl⟩
          obtain ⟨ax, hax⟩ : ∃ ax, ax = adL a b c (i + 1) := ⟨_, rfl⟩
          obtain ⟨cx, hcx⟩ : ∃ cx, cx = cpL ca cb cc (i + 1) := ⟨_, rfl⟩
          rw [← hX] at hc hbad hok HR
          rw [← hax] at hc HR
          rw [← hcx] at hc HR
          clear hX hax hcx hent hLi
          unfold rowV at HR
          obtain ⟨⟨p, e⟩, hm⟩ : ∃ m, m = rightA X := ⟨_, rfl⟩
          rw [← hm] at HR hok hbad
          clear hm
          have HOK : Hid (e = 0 → Pass A B C (3 + i + 1)) := hok
          have HBAD : Hid (e ≠ 0 → checkA A B C = (e, i + 1, p)) := hbad
          have hd3 : decide ((i : Int) < 3) = true := decide_eq_true (by omega)
          have hWi := (hbr.block _ (Array.getElem?_eq_some_iff.1 hW1).1).trans hW1
          clear hP hok hbad
          go_wp2_with fail
          refine HR.mono ?_
          rintro r w1 ⟨rfl, hb1⟩
          have B1 := hbr.trans (hb1.mono hbr.size)
          have hWj := (hb1.block _ (Array.getElem?_eq_some_iff.1 hWi).1).trans hWi
          clear HR hc hWi hb1
          by_cases he : e = 0
          · have hPn := HOK.out he
            subst he
            have HPN : Hid (Pass A B C (3 + i + 1)) := hPn
            clear hPn HOK HBAD hWj
            go_wp2_with fail
            exact ⟨⟨i + 1, by omega, by go_num, HPN.out, B1⟩, by simp only [intOf]; omega⟩
          · have hE := HBAD.out he
            have HE : Hid (checkA A B C = (e, i + 1, p)) := hE
            have hne : ((e : Int) != 0) = true := by simp; omega
            have HW1 := hWj
            have x0 := cell_of_block HW1 (i := 0)
            have x1 := cell_of_block HW1 (i := 1)
            have x2 := cell_of_block HW1 (i := 2)
            have f0 := fun j => unfrozen_of_block HW1 j
            have hBB := b1.trans (B1.mono b1.size)
            clear he hE HOK HBAD hWj
            go_wp2_with fail
            have hfin := wr_set HW1 (u0 := .int .i64 (e : Nat)) (u1 := .int .i64 ((i : Int) + 1)) (u2 := .int .i64 (p : Nat))
            have hBf := wr_below hBB (g := z) (u0 := .int .i64 (e : Nat)) (u1 := .int .i64 ((i : Int) + 1)) (u2 := .int .i64 (p : Nat)) (by rw [HZ.out]; omega)
            obtain ⟨Wf, hWf⟩ : ∃ Wf, Wf = (((w1.setCell ⟨z, 0, none⟩ (.int .i64 (e : Nat))).setCell ⟨z, 1, none⟩ (.int .i64 ((i : Int) + 1))).setCell ⟨z, 2, none⟩ (.int .i64 (p : Nat))) := ⟨_, rfl⟩
            rw [← hWf] at hfin hBf ⊢
            have y0 := cell_of_block hfin (i := 0)
            have y1 := cell_of_block hfin (i := 1)
            have y2 := cell_of_block hfin (i := 2)
            exact bodyPost_ret (v := .agg #[.int .i64 (e : Nat), .int .i64 ((i : Int) + 1), .int .i64 (p : Nat)]) (by simp [results, Tryd.results47, go_sem, y0, y1, y2]) rfl ⟨by rw [HE.out]; rfl, hBf⟩
        · have h3' : i = 3 := by omega
          subst h3'
          rw [show ((3 : Nat) : Int) = 3 from rfl]
          have HP : Hid (Pass A B C 6) := hP
          clear hP
          have hRg := fun j => rgt_pick (HP.out.rgt (by omega)).1 (HP.out.rgt (by omega)).2.1 (HP.out.rgt (by omega)).2.2 j
          have hTv := hT1.below hbr
          have hLw := fun j => (hLV j).below hbr
          have hAw := hA1.below hbr
          have hBw := hB1.below hbr
          have hCw := hC1.below hbr
          have hWw := (hbr.block _ (Array.getElem?_eq_some_iff.1 hW1).1).trans hW1
          have b2 := b1.trans (hbr.mono b1.size)
          have s2 : z + 1 < wr.heap.size := Nat.lt_of_lt_of_le s1 hbr.size
          clear hT1 hLV hA1 hB1 hC1 hW1 b1 hbr s1
          go_wp2_with fail
          obtain ⟨U, hU⟩ : ∃ U, U = wr := ⟨_, rfl⟩
          subst hU
          go_loopw [12] (fun v wr => ∃ i : Nat, 1 ≤ i ∧ i ≤ 3 ∧ v = .int .i64 (i : Nat) ∧ Pass A B C (6 + i) ∧ Below U.heap.size U wr) (fun v _ => 3 - (intOf v).toNat)
          case atStart => exact ⟨1, by omega, by omega, rfl, HP.out.succ (ent_six A B C), Below.refl _ _⟩
          case round =>
            clear HP
            obtain ⟨i, hi1, hi, rfl, hP, hbr⟩ := hrel
            by_cases h3 : i < 3
            · have hent := ent_over A B C (q := i) h3
              have hbad := check_bad (q := 6 + i) (by omega) hP
              rw [hent, show (6 + i) % 3 + 1 = i + 1 by omega] at hbad
              have hok := fun h => hP.succ (h : (ent A B C (6 + i)).2 = 0)
              rw [hent] at hok
              unfold overA at hok hbad
              rw [ahead_two] at hok hbad
              have HM := fun (j : Nat) (wx : World) (h1 : Lst wx (adL a b c (i + 1)) (cpL ca cb cc (i + 1)) (pickL A B C (i + 1))) (h2 : Lst wx (adL a b c (j + 1)) (cpL ca cb cc (j + 1)) (pickL A B C (j + 1))) => refMeet_any (adL a b c (i + 1)) (adL a b c (j + 1)) (cpL ca cb cc (i + 1)) (cpL ca cb cc (j + 1)) (pickL A B C (i + 1)) (pickL A B C (j + 1)) wx h1.len h2.len h1.at' h2.at' (hRg (i + 1)) (hRg (j + 1))
              have hLi := hLw (i + 1)
              have hTi := hTv i h3
              obtain ⟨X, hX⟩ : ∃ X, X = pickL A B C (i + 1) := ⟨_, rfl⟩
              obtain ⟨ax, hax⟩ : ∃ ax, ax = adL a b c (i + 1) := ⟨_, rfl⟩
              obtain ⟨cx, hcx⟩ : ∃ cx, cx = cpL ca cb cc (i + 1) := ⟨_, rfl⟩
              rw [← hX] at hbad hok HM hLi hTi
              rw [← hax] at HM hLi hTi
              rw [← hcx] at HM hLi hTi
              clear hX hax hcx hent
              have HOK : Hid ((if ovI X ([A, B].take i) < 0 then ((0, 0) : Nat × Nat) else ((ovI X ([A, B].take i)).toNat, 16)).2 = 0 → Pass A B C (6 + i + 1)) := hok
              have HBAD : Hid ((if ovI X ([A, B].take i) < 0 then ((0, 0) : Nat × Nat) else ((ovI X ([A, B].take i)).toNat, 16)).2 ≠ 0 → checkA A B C = ((if ovI X ([A, B].take i) < 0 then ((0, 0) : Nat × Nat) else ((ovI X ([A, B].take i)).toNat, 16)).2, i + 1, (if ovI X ([A, B].take i) < 0 then ((0, 0) : Nat × Nat) else ((ovI X ([A, B].take i)).toNat, 16)).1)) := hbad
              have hd3 : decide ((i : Int) < 3) = true := decide_eq_true (by omega)
              clear hP hok hbad
              go_wp2_with fail
              go_loopw [13, 14] (fun f v wr => ∃ (j : Nat) (F : Int), j ≤ i ∧ F = ovI X ([A, B].take j) ∧ -1 ≤ F ∧ v = .int .i64 (j : Nat) ∧ f = .int .i64 F ∧ Below U.heap.size U wr) (fun _ v _ => i - (intOf v).toNat)
              case atStart => exact ⟨0, -1, Nat.zero_le _, rfl, Int.le_refl _, rfl, rfl, hbr⟩
              case round =>
                clear hbr
                obtain ⟨j, F, hj, hF0, hF1, rfl, rfl, hbr⟩ := hrel
                have HF0 : Hid (F = ovI X ([A, B].take j)) := hF0
                clear hF0
                by_cases hlt : j < i
                · have hc1 := hTv j (by omega)
                  have hc1 := (hbr.cell (World.block_lt_of_cell? U _ hc1)).trans hc1
                  have hc0 := (hbr.cell (World.block_lt_of_cell? U _ hTi)).trans hTi
                  have hLx := hLi.below hbr
                  have hLy := (hLw (j + 1)).below hbr
                  have HM := HM j
                  have hS := ovI_take (X := X) (two_get A B C (show j < 2 by omega))
                  rw [← HF0.out] at hS
                  unfold ovS at hS
                  obtain ⟨Y, hY⟩ : ∃ Y, Y = pickL A B C (j + 1) := ⟨_, rfl⟩
                  obtain ⟨ay, hay⟩ : ∃ ay, ay = adL a b c (j + 1) := ⟨_, rfl⟩
                  obtain ⟨cy, hcy⟩ : ∃ cy, cy = cpL ca cb cc (j + 1) := ⟨_, rfl⟩
                  rw [← hY] at hLy HM hc1 hS
                  rw [← hay] at hLy HM hc1
                  rw [← hcy] at hLy HM hc1
                  clear hY hay hcy
                  unfold meetV at HM
                  obtain ⟨⟨p, m⟩, hm⟩ : ∃ m, m = meetA X Y := ⟨_, rfl⟩
                  rw [← hm] at HM hS
                  clear hm
                  have HS : Hid (ovI X ([A, B].take (j + 1)) = if m = true ∧ (F < 0 ∨ (p : Int) < F) then (p : Int) else F) := hS
                  have HC := fun d os => HM (grow (redrawn wr d) os) (hLx.below (below_regrown wr d os)) (hLy.below (below_regrown wr d os))
                  dsimp only at HC
                  have k0 := cell_regrown hc0
                  have k1 := cell_regrown hc1
                  clear hS HM
                  go_wp2_with fail
                  refine wp_region_quiet_below (by kernel_rfl) (by kernel_rfl) ?_
                  repeat (go_big_quiet_step ((go_at_call 67; exact Calls.regrown_of (HC _ _))))
                  refine wpQuiet_nil ?_
                  intro W5 hw'
                  have hb5 : Below wr.heap.size wr W5 := by
                    obtain ⟨⟨dq, osq⟩, rfl⟩ := hw'
                    exact below_regrown _ _ _
                  have B1 := hbr.trans (hb5.mono hbr.size)
                  clear hw' HC k0 k1 hc0 hc1 hb5 hLx hLy
                  cases m with
                  | false =>
                    have h1 := HS.out
                    simp only [Bool.false_eq_true, false_and, if_false] at h1
                    have HS1 : Hid (F = ovI X ([A, B].take (j + 1))) := h1.symm
                    clear h1 HS
                    go_wp2_with fail
                    exact ⟨⟨j + 1, F, by omega, HS1.out, hF1, by go_num, rfl, B1⟩, by simp only [intOf]; omega⟩
                  | true =>
                    by_cases hn : F < 0
                    · have h1 := HS.out
                      simp only [true_and] at h1
                      rw [if_pos (.inl hn)] at h1
                      have HS1 : Hid ((p : Int) = ovI X ([A, B].take (j + 1))) := h1.symm
                      have hd : decide (F < 0) = true := decide_eq_true hn
                      clear h1 HS
                      go_wp2_with fail
                      exact ⟨⟨j + 1, p, by omega, HS1.out, by omega, by go_num, rfl, B1⟩, by simp only [intOf]; omega⟩
                    · have hd : decide (F < 0) = false := decide_eq_false hn
                      by_cases hp : (p : Int) < F
                      · have h1 := HS.out
                        simp only [true_and] at h1
                        rw [if_pos (.inr hp)] at h1
                        have HS1 : Hid ((p : Int) = ovI X ([A, B].take (j + 1))) := h1.symm
                        have hdp : decide ((p : Int) < F) = true := decide_eq_true hp
                        clear h1 HS
                        go_wp2_with fail
                        exact ⟨⟨j + 1, p, by omega, HS1.out, by omega, by go_num, rfl, B1⟩, by simp only [intOf]; omega⟩
                      · have h1 := HS.out
                        simp only [true_and] at h1
                        rw [if_neg (by omega)] at h1
                        have HS1 : Hid (F = ovI X ([A, B].take (j + 1))) := h1.symm
                        have hdp : decide ((p : Int) < F) = false := decide_eq_false hp
                        clear h1 HS
                        go_wp2_with fail
                        exact ⟨⟨j + 1, F, by omega, HS1.out, hF1, by go_num, rfl, B1⟩, by simp only [intOf]; omega⟩
                · have hij : j = i := by omega
                  subst hij
                  have hok := HOK.out
                  have hbad := HBAD.out
                  rw [← HF0.out] at hok hbad
                  clear HF0 HOK HBAD
                  by_cases hn : F < 0
                  · rw [if_pos hn] at hok
                    have HPN : Hid (Pass A B C (6 + j + 1)) := hok rfl
                    have hd : decide (0 ≤ F) = false := decide_eq_false (by omega)
                    clear hok hbad
                    go_wp2_with fail
                    exact ⟨⟨j + 1, by omega, by omega, by go_num, HPN.out, hbr⟩, by simp only [intOf]; omega⟩
                  · rw [if_neg hn] at hbad
                    have HE : Hid (checkA A B C = (16, j + 1, F.toNat)) := hbad (by simp)
                    have hd : decide (0 ≤ F) = true := decide_eq_true (by omega)
                    have hWj := (hbr.block _ (Array.getElem?_eq_some_iff.1 hWw).1).trans hWw
                    have hBB := b2.trans (hbr.mono b2.size)
                    have HW1 := hWj
                    have x0 := cell_of_block HW1 (i := 0)
                    have x1 := cell_of_block HW1 (i := 1)
                    have x2 := cell_of_block HW1 (i := 2)
                    have f0 := fun j => unfrozen_of_block HW1 j
                    clear hok hbad hWj
                    go_wp2_with fail
                    have hfin := wr_set HW1 (u0 := .int .i64 16) (u1 := .int .i64 ((j : Int) + 1)) (u2 := .int .i64 F)
                    have hBf := wr_below hBB (g := z) (u0 := .int .i64 16) (u1 := .int .i64 ((j : Int) + 1)) (u2 := .int .i64 F) (by rw [HZ.out]; omega)
                    obtain ⟨Wf, hWf⟩ : ∃ Wf, Wf = (((wr.setCell ⟨z, 0, none⟩ (.int .i64 16)).setCell ⟨z, 1, none⟩ (.int .i64 ((j : Int) + 1))).setCell ⟨z, 2, none⟩ (.int .i64 F)) := ⟨_, rfl⟩
                    rw [← hWf] at hfin hBf ⊢
                    have y0 := cell_of_block hfin (i := 0)
                    have y1 := cell_of_block hfin (i := 1)
                    have y2 := cell_of_block hfin (i := 2)
                    exact bodyPost_ret (v := .agg #[.int .i64 16, .int .i64 ((j : Int) + 1), .int .i64 F]) (by simp [results, Tryd.results47, go_sem, y0, y1, y2]) rfl ⟨by rw [HE.out]; simp [wrV]; omega, hBf⟩
            · have h3' : i = 3 := by omega
              subst h3'
              have hend := check_end hP
              unfold blankB at hend
              have H1 := fun wx (h : Lst wx c cc C) => refIn_any c cc C 32 wx h.len h.at'
              have H2 := fun wx (h : Lst wx a ca A) => refIn_any a ca A 39 wx h.len h.at'
              have H3 := fun wx (h : Lst wx b cb B) => refIn_any b cb B 39 wx h.len h.at'
              have H4 := fun wx (h : Lst wx c cc C) => refIn_any c cc C 39 wx h.len h.at'
              obtain ⟨u1, hu1⟩ : ∃ u, u = inB C 32 := ⟨_, rfl⟩
              obtain ⟨u2, hu2⟩ : ∃ u, u = inB A 39 := ⟨_, rfl⟩
              obtain ⟨u3, hu3⟩ : ∃ u, u = inB B 39 := ⟨_, rfl⟩
              obtain ⟨u4, hu4⟩ : ∃ u, u = inB C 39 := ⟨_, rfl⟩
              rw [← hu1] at H1 hend
              rw [← hu2] at H2 hend
              rw [← hu3] at H3 hend
              rw [← hu4] at H4 hend
              have HEND : Hid (checkA A B C = if (!u1 || u2 || u3 || u4) = true then (20, 3, 0) else (0, 0, 0)) := hend
              have hA0 := hAw.below hbr
              have hB0 := hBw.below hbr
              have hC0 := hCw.below hbr
              have hWj := (hbr.block _ (Array.getElem?_eq_some_iff.1 hWw).1).trans hWw
              have B0 := b2.trans (hbr.mono b2.size)
              clear hu1 hu2 hu3 hu4 hend hP hLw hTv hRg hAw hBw hCw hWw b2 hbr
              go_wp2_with fail
              refine (H1 _ hC0).mono ?_
              rintro e w1 ⟨rfl, hb1⟩
              have hA1 := hA0.below hb1
              have hB1 := hB0.below hb1
              have hC1 := hC0.below hb1
              have hW1 := (hb1.block _ (Array.getElem?_eq_some_iff.1 hWj).1).trans hWj
              have B1 := B0.trans (hb1.mono B0.size)
              clear H1 hA0 hB0 hC0 hWj B0 hb1
              cases u1 with
              | false =>
                have HE : Hid (checkA A B C = (20, 3, 0)) := by show _ = _; rw [HEND.out]; rfl
                have HW1 := hW1
                have x0 := cell_of_block HW1 (i := 0)
                have x1 := cell_of_block HW1 (i := 1)
                have x2 := cell_of_block HW1 (i := 2)
                have f0 := fun j => unfrozen_of_block HW1 j
                have hBB := B1
                clear HEND H2 H3 H4 hW1 hA1 hB1 hC1
                go_wp2_with fail
                have hfin := wr_set HW1 (u0 := .int .i64 20) (u1 := .int .i64 3) (u2 := .int .i64 0)
                have hBf := wr_below hBB (g := z) (u0 := .int .i64 20) (u1 := .int .i64 3) (u2 := .int .i64 0) (by rw [HZ.out]; omega)
                obtain ⟨Wf, hWf⟩ : ∃ Wf, Wf = (((w1.setCell ⟨z, 0, none⟩ (.int .i64 20)).setCell ⟨z, 1, none⟩ (.int .i64 3)).setCell ⟨z, 2, none⟩ (.int .i64 0)) := ⟨_, rfl⟩
                rw [← hWf] at hfin hBf ⊢
                have y0 := cell_of_block hfin (i := 0)
                have y1 := cell_of_block hfin (i := 1)
                have y2 := cell_of_block hfin (i := 2)
                exact bodyPost_ret (v := .agg #[.int .i64 20, .int .i64 3, .int .i64 0]) (by simp [results, Tryd.results47, go_sem, y0, y1, y2]) rfl ⟨by rw [HE.out]; rfl, hBf⟩
              | true =>
                go_wp2_with fail
                refine (H2 _ hA1).mono ?_
                rintro e w2 ⟨rfl, hb2⟩
                have hB2 := hB1.below hb2
                have hC2 := hC1.below hb2
                have hW2 := (hb2.block _ (Array.getElem?_eq_some_iff.1 hW1).1).trans hW1
                have B2 := B1.trans (hb2.mono B1.size)
                clear H2 hA1 hB1 hC1 hW1 B1 hb2
                cases u2 with
                | true =>
                  have HE : Hid (checkA A B C = (20, 3, 0)) := by show _ = _; rw [HEND.out]; rfl
                  have HW1 := hW2
                  have x0 := cell_of_block HW1 (i := 0)
                  have x1 := cell_of_block HW1 (i := 1)
                  have x2 := cell_of_block HW1 (i := 2)
                  have f0 := fun j => unfrozen_of_block HW1 j
                  have hBB := B2
                  clear HEND H3 H4 hW2 hB2 hC2
                  go_wp2_with fail
                  have hfin := wr_set HW1 (u0 := .int .i64 20) (u1 := .int .i64 3) (u2 := .int .i64 0)
                  have hBf := wr_below hBB (g := z) (u0 := .int .i64 20) (u1 := .int .i64 3) (u2 := .int .i64 0) (by rw [HZ.out]; omega)
                  obtain ⟨Wf, hWf⟩ : ∃ Wf, Wf = (((w2.setCell ⟨z, 0, none⟩ (.int .i64 20)).setCell ⟨z, 1, none⟩ (.int .i64 3)).setCell ⟨z, 2, none⟩ (.int .i64 0)) := ⟨_, rfl⟩
                  rw [← hWf] at hfin hBf ⊢
                  have y0 := cell_of_block hfin (i := 0)
                  have y1 := cell_of_block hfin (i := 1)
                  have y2 := cell_of_block hfin (i := 2)
                  exact bodyPost_ret (v := .agg #[.int .i64 20, .int .i64 3, .int .i64 0]) (by simp [results, Tryd.results47, go_sem, y0, y1, y2]) rfl ⟨by rw [HE.out]; rfl, hBf⟩
                | false =>
                  go_wp2_with fail
                  refine (H3 _ hB2).mono ?_
                  rintro e w3 ⟨rfl, hb3⟩
                  have hC3 := hC2.below hb3
                  have hW3 := (hb3.block _ (Array.getElem?_eq_some_iff.1 hW2).1).trans hW2
                  have B3 := B2.trans (hb3.mono B2.size)
                  clear H3 hB2 hC2 hW2 B2 hb3
                  cases u3 with
                  | true =>
                    have HE : Hid (checkA A B C = (20, 3, 0)) := by show _ = _; rw [HEND.out]; rfl
                    have HW1 := hW3
                    have x0 := cell_of_block HW1 (i := 0)
                    have x1 := cell_of_block HW1 (i := 1)
                    have x2 := cell_of_block HW1 (i := 2)
                    have f0 := fun j => unfrozen_of_block HW1 j
                    have hBB := B3
                    clear HEND H4 hW3 hC3
                    go_wp2_with fail
                    have hfin := wr_set HW1 (u0 := .int .i64 20) (u1 := .int .i64 3) (u2 := .int .i64 0)
                    have hBf := wr_below hBB (g := z) (u0 := .int .i64 20) (u1 := .int .i64 3) (u2 := .int .i64 0) (by rw [HZ.out]; omega)
                    obtain ⟨Wf, hWf⟩ : ∃ Wf, Wf = (((w3.setCell ⟨z, 0, none⟩ (.int .i64 20)).setCell ⟨z, 1, none⟩ (.int .i64 3)).setCell ⟨z, 2, none⟩ (.int .i64 0)) := ⟨_, rfl⟩
                    rw [← hWf] at hfin hBf ⊢
                    have y0 := cell_of_block hfin (i := 0)
                    have y1 := cell_of_block hfin (i := 1)
                    have y2 := cell_of_block hfin (i := 2)
                    exact bodyPost_ret (v := .agg #[.int .i64 20, .int .i64 3, .int .i64 0]) (by simp [results, Tryd.results47, go_sem, y0, y1, y2]) rfl ⟨by rw [HE.out]; rfl, hBf⟩
                  | false =>
                    go_wp2_with fail
                    refine (H4 _ hC3).mono ?_
                    rintro e w4 ⟨rfl, hb4⟩
                    have hW4 := (hb4.block _ (Array.getElem?_eq_some_iff.1 hW3).1).trans hW3
                    have hBB := B3.trans (hb4.mono B3.size)
                    clear H4 hC3 hW3 B3 hb4
                    cases u4 with
                    | true =>
                      have HE : Hid (checkA A B C = (20, 3, 0)) := by show _ = _; rw [HEND.out]; rfl
                      have HW1 := hW4
                      have x0 := cell_of_block HW1 (i := 0)
                      have x1 := cell_of_block HW1 (i := 1)
                      have x2 := cell_of_block HW1 (i := 2)
                      have f0 := fun j => unfrozen_of_block HW1 j
                      clear HEND hW4
                      go_wp2_with fail
                      have hfin := wr_set HW1 (u0 := .int .i64 20) (u1 := .int .i64 3) (u2 := .int .i64 0)
                      have hBf := wr_below hBB (g := z) (u0 := .int .i64 20) (u1 := .int .i64 3) (u2 := .int .i64 0) (by rw [HZ.out]; omega)
                      obtain ⟨Wf, hWf⟩ : ∃ Wf, Wf = (((w4.setCell ⟨z, 0, none⟩ (.int .i64 20)).setCell ⟨z, 1, none⟩ (.int .i64 3)).setCell ⟨z, 2, none⟩ (.int .i64 0)) := ⟨_, rfl⟩
                      rw [← hWf] at hfin hBf ⊢
                      have y0 := cell_of_block hfin (i := 0)
                      have y1 := cell_of_block hfin (i := 1)
                      have y2 := cell_of_block hfin (i := 2)
                      exact bodyPost_ret (v := .agg #[.int .i64 20, .int .i64 3, .int .i64 0]) (by simp [results, Tryd.results47, go_sem, y0, y1, y2]) rfl ⟨by rw [HE.out]; rfl, hBf⟩
                    | false =>
                      have HE : Hid (checkA A B C = (0, 0, 0)) := by show _ = _; rw [HEND.out]; rfl
                      have HW1 := hW4
                      have x0 := cell_of_block HW1 (i := 0)
                      have x1 := cell_of_block HW1 (i := 1)
                      have x2 := cell_of_block HW1 (i := 2)
                      have f0 := fun j => unfrozen_of_block HW1 j
                      clear HEND hW4
                      go_wp2_with fail
                      have hfin := wr_set HW1 (u0 := .int .i64 0) (u1 := .int .i64 0) (u2 := .int .i64 0)
                      have hBf := wr_below hBB (g := z) (u0 := .int .i64 0) (u1 := .int .i64 0) (u2 := .int .i64 0) (by rw [HZ.out]; omega)
                      obtain ⟨Wf, hWf⟩ : ∃ Wf, Wf = (((w4.setCell ⟨z, 0, none⟩ (.int .i64 0)).setCell ⟨z, 1, none⟩ (.int .i64 0)).setCell ⟨z, 2, none⟩ (.int .i64 0)) := ⟨_, rfl⟩
                      rw [← hWf] at hfin hBf ⊢
                      have y0 := cell_of_block hfin (i := 0)
                      have y1 := cell_of_block hfin (i := 1)
                      have y2 := cell_of_block hfin (i := 2)
                      exact bodyPost_ret (v := .agg #[.int .i64 0, .int .i64 0, .int .i64 0]) (by simp [results, Tryd.results47, go_sem, y0, y1, y2]) rfl ⟨by rw [HE.out]; rfl, hBf⟩
end Go.Proofs.YtjbdhakogbolkaaDoor
end
section
/- tesseraref5.Check: its contract. -/
namespace Go.Proofs.YtjbdhakogbolkaaDoor
open Go.RowKit Go.Sort Go.Joins
set_option linter.unusedVariables false
set_option maxRecDepth 100000 in
set_option maxHeartbeats 4000000 in
theorem refCheck5_any (aw am a b c : Option Addr) (cw cm ca cb cc : Nat) (ws : List ByteArray) (ms : List Mg) (A B C : List Sp) (w : World) (hwf : MWf ms) (hn : ws.length ≤ 4611686018427387) (hW : WSP w aw ws) (hM : MSP w am ms) (hA : Lst w a ca A) (hB : Lst w b cb B) (hC : Lst w c cc C) :
    Calls Tryd.prog 27 #[.agg #[.slice aw ws.length cw, .slice am ms.length cm, .slice a A.length ca, .slice b B.length cb, .slice c C.length cc]] w fun e w' => e = .returned (f3V (checkD ws ms A B C)) ∧ Below w.heap.size w w' := by
  have hD := DBox.new w (.slice aw ws.length cw) (.slice am ms.length cm) (.slice a A.length ca) (.slice b B.length cb) (.slice c C.length cc)
  have hb := box_below w (.cells #[.slice aw ws.length cw, .slice am ms.length cm, .slice a A.length ca, .slice b B.length cb, .slice c C.length cc] 30)
  have hR2 := heap_alloc_new (w.alloc (.cells #[.slice aw ws.length cw, .slice am ms.length cm, .slice a A.length ca, .slice b B.length cb, .slice c C.length cc] 30)) (.cells #[.int .i64 0, .int .i64 0, .int .i64 0] 72)
  have hB2 := hb.alloc hb.size (.cells #[.int .i64 0, .int .i64 0, .int .i64 0] 72)
  have hD2 := hD.below (box_below (w.alloc (.cells #[.slice aw ws.length cw, .slice am ms.length cm, .slice a A.length ca, .slice b B.length cb, .slice c C.length cc] 30)) (.cells #[.int .i64 0, .int .i64 0, .int .i64 0] 72)) hD.lt
  rw [show (w.alloc (.cells #[.slice aw ws.length cw, .slice am ms.length cm, .slice a A.length ca, .slice b B.length cb, .slice c C.length cc] 30)).heap.size = w.heap.size + 1 by simp] at hR2
  have HW0 : Hid (WSP w aw ws) := hW
  have HM0 : Hid (MSP w am ms) := hM
  have HA0 : Hid (Lst w a ca A) := hA
  have HB0 : Hid (Lst w b cb B) := hB
  have HC0 : Hid (Lst w c cc C) := hC
  clear hD hW hM hA hB hC
  obtain ⟨E, hE⟩ : ∃ E, E = checkD ws ms A B C := ⟨_, rfl⟩
  have HE : Hid (E = checkD ws ms A B C) := hE
  rw [← hE]
  clear hE
  have hs2 : ((w.alloc (.cells #[.slice aw ws.length cw, .slice am ms.length cm, .slice a A.length ca, .slice b B.length cb, .slice c C.length cc] 30)).alloc (.cells #[.int .i64 0, .int .i64 0, .int .i64 0] 72)).heap.size = w.heap.size + 1 + 1 := by simp
  by_cases h1 : 4096 < ms.length
  · have g1 : decide ((4096 : Int) < (ms.length : Int)) = true := decide_eq_true (by omega)
    have HE2 : Hid (E = (4, 5, 4096)) := (by rw [HE.out]; unfold checkD; rw [if_pos h1] : E = (4, 5, 4096))
    have x1 := hD2.c1
    clear hR2 hB2 hD2 HE
    go_enter Tryd.func27, Tryd.ntmps27
    go_wp2_with fail
    exact bodyPost_ret (v := .agg #[.int .i64 4, .int .i64 5, .int .i64 4096]) (by simp [results, Tryd.results27, go_sem]) rfl ⟨by rw [HE2.out]; rfl, hb.alloc hb.size _⟩
  · have g1 : decide ((4096 : Int) < (ms.length : Int)) = false := decide_eq_false (by omega)
    by_cases h2 : ws.length = ms.length
    · have g2 : ((ws.length : Int) == (ms.length : Int)) = true := by simp; omega
      have HE2 : Hid (E = _) := HE.out.trans (checkD_zero (by unfold numF; rw [if_neg h1, if_neg (by simpa using h2)]))
      have HN : Hid (ws.length = ms.length) := h2
      have x0 := hD2.c0
      have x1 := hD2.c1
      have x2 := hD2.c2
      have x3 := hD2.c3
      have x4 := hD2.c4
      have H4 := fun (wx : World) h1 h2 h3 => refCheck_any a b c ca cb cc A B C wx h1 h2 h3
      have H5 := fun (wx : World) h => refWords_any aw am a b c cw ms.length cm A.length ca B.length cb C.length cc ws wx (by omega) h
      have H6 := fun (wx : World) hz h h' => refMerges_any aw am a b c cw cm A.length ca B.length cb C.length cc ws ms wx (by omega) (by omega) hwf hz h h'
      obtain ⟨⟨ya, la, ra⟩, hya⟩ : ∃ q, q = checkA A B C := ⟨_, rfl⟩
      rw [← hya] at H4
      have HYA : Hid ((ya, la, ra) = checkA A B C) := hya
      obtain ⟨⟨yw, rw_⟩, hyw⟩ : ∃ q, q = firstBad (badW ws) ws.length := ⟨_, rfl⟩
      rw [← hyw] at H5
      have HYW : Hid ((yw, rw_) = firstBad (badW ws) ws.length) := hyw
      obtain ⟨⟨ym, rm⟩, hym⟩ : ∃ q, q = firstBad (badM ws ms) ms.length := ⟨_, rfl⟩
      rw [← hym] at H6
      have HYM : Hid ((ym, rm) = firstBad (badM ws ms) ms.length) := hym
      unfold wrV at H4
      unfold fbV at H5 H6
      clear hya hyw hym HE h2
      have hne1 : ((4096 : Int) < (ms.length : Int)) = False := by simp; omega
      clear hne1
      go_enter Tryd.func27, Tryd.ntmps27
      go_wp2_with fail
      obtain ⟨Y, hY⟩ : ∃ Y, Y = ((w.alloc (.cells #[.slice aw ws.length cw, .slice am ms.length cm, .slice a A.length ca, .slice b B.length cb, .slice c C.length cc] 30)).alloc (.cells #[.int .i64 0, .int .i64 0, .int .i64 0] 72)) := ⟨_, rfl⟩
      rw [← hY] at hB2 hD2 hR2 hs2 ⊢
      clear hY x0 x1 x2 x3 x4
      obtain ⟨z, hz⟩ : ∃ z, z = w.heap.size := ⟨_, rfl⟩
      have HZ : Hid (z = w.heap.size) := hz
      rw [← hz] at hD2 hR2 hs2 ⊢
      clear hz
      refine (H4 Y (HA0.out.below hB2) (HB0.out.below hB2) (HC0.out.below hB2)).mono ?_
      rintro e w3 ⟨rfl, hb3⟩
      simp only []
      obtain ⟨yai, hyai⟩ : ∃ q : Int, q = (ya : Nat) := ⟨_, rfl⟩
      obtain ⟨lai, hlai⟩ : ∃ q : Int, q = (la : Nat) := ⟨_, rfl⟩
      obtain ⟨rai, hrai⟩ : ∃ q : Int, q = (ra : Nat) := ⟨_, rfl⟩
      rw [← hyai, ← hlai, ← hrai]
      have HYAI : Hid (yai = (ya : Nat) ∧ lai = (la : Nat) ∧ rai = (ra : Nat)) := ⟨hyai, hlai, hrai⟩
      clear H4
      have hDa := hD2.below hb3 (by omega)
      have hRa := (hb3.block (z + 1) (by omega)).trans hR2
      have hBa := hB2.trans (hb3.mono hB2.size)
      have hsa : z + 1 + 1 ≤ w3.heap.size := by have := hb3.size; omega
      have hbn := box_below w3 (.cells #[.int .i64 yai, .int .i64 lai, .int .i64 rai] 109)
      have hF3 := heap_alloc_new w3 (.cells #[.int .i64 yai, .int .i64 lai, .int .i64 rai] 109)
      have hD3 := hDa.below hbn (by omega)
      have hR3 := (hbn.block (z + 1) (by omega)).trans hRa
      have hB3 := hBa.trans (hbn.mono hBa.size)
      have hs3 : z + 1 + 1 ≤ (w3.alloc (.cells #[.int .i64 yai, .int .i64 lai, .int .i64 rai] 109)).heap.size := by simp; omega
      clear hDa hRa hBa hsa hbn hD2 hR2 hB2 hs2 hb3
      have f0 := cell_of_block hF3 0
      have f1 := cell_of_block hF3 1
      have f2 := cell_of_block hF3 2
      have e1 := fun j => unfrozen_of_block hF3 j
      have e2 := fun j => unfrozen_of_block hR3 j
      have z0 := cell_of_block hR3 (i := 0)
      have z1 := cell_of_block hR3 (i := 1)
      have z2 := cell_of_block hR3 (i := 2)
      by_cases ha0 : ya = 0
      · obtain rfl : yai = 0 := by rw [hyai, ha0]; rfl
        have HY0 : Hid ((checkA A B C).1 = 0) := by rw [← HYA.out]; exact ha0
        have x0 := hD3.c0
        have x1 := hD3.c1
        have x2 := hD3.c2
        have x3 := hD3.c3
        have x4 := hD3.c4
        clear hyai hlai hrai ha0 HYA
        go_wp2_with fail
        obtain ⟨W3, hW3⟩ : ∃ W3, W3 = w3.alloc (.cells #[.int .i64 0, .int .i64 lai, .int .i64 rai] 109) := ⟨_, rfl⟩
        rw [← hW3] at hF3 hD3 hR3 hB3 hs3 f0 f1 f2 e1 e2 z0 z1 z2 x0 x1 x2 x3 x4 ⊢
        clear hW3
        clear f0 f1 f2 e1 e2 x0 x1 x2 x3 x4 z0 z1 z2 hF3
        refine (H5 W3 (HW0.out.below hB3)).mono ?_
        rintro e w4 ⟨rfl, hb4⟩
        simp only []
        obtain ⟨ywi, hywi⟩ : ∃ q : Int, q = (yw : Nat) := ⟨_, rfl⟩
        obtain ⟨lwi, hlwi⟩ : ∃ q : Int, q = ((if yw = 0 then 0 else 4 : Nat) : Int) := ⟨_, rfl⟩
        obtain ⟨rwi, hrwi⟩ : ∃ q : Int, q = (rw_ : Nat) := ⟨_, rfl⟩
        rw [← hywi, ← hlwi, ← hrwi]
        have HYWI : Hid (ywi = (yw : Nat) ∧ lwi = ((if yw = 0 then 0 else 4 : Nat) : Int) ∧ rwi = (rw_ : Nat)) := ⟨hywi, hlwi, hrwi⟩
        clear H5
        have hDa := hD3.below hb4 (by omega)
        have hRa := (hb4.block (z + 1) (by omega)).trans hR3
        have hBa := hB3.trans (hb4.mono hB3.size)
        have hsa : z + 1 + 1 ≤ w4.heap.size := by have := hb4.size; omega
        have hbn := box_below w4 (.cells #[.int .i64 ywi, .int .i64 lwi, .int .i64 rwi] 72)
        have hF4 := heap_alloc_new w4 (.cells #[.int .i64 ywi, .int .i64 lwi, .int .i64 rwi] 72)
        have hD4 := hDa.below hbn (by omega)
        have hR4 := (hbn.block (z + 1) (by omega)).trans hRa
        have hB4 := hBa.trans (hbn.mono hBa.size)
        have hs4 : z + 1 + 1 ≤ (w4.alloc (.cells #[.int .i64 ywi, .int .i64 lwi, .int .i64 rwi] 72)).heap.size := by simp; omega
        clear hDa hRa hBa hsa hbn hD3 hR3 hB3 hs3 hb4
        have f0 := cell_of_block hF4 0
        have f1 := cell_of_block hF4 1
        have f2 := cell_of_block hF4 2
        have e1 := fun j => unfrozen_of_block hF4 j
        have e2 := fun j => unfrozen_of_block hR4 j
        have z0 := cell_of_block hR4 (i := 0)
        have z1 := cell_of_block hR4 (i := 1)
        have z2 := cell_of_block hR4 (i := 2)
        by_cases hw0 : yw = 0
        · obtain rfl : ywi = 0 := by rw [hywi, hw0]; rfl
          have hRgt : WRgt ws := firstBad_zero (by rw [← HYW.out]; exact hw0)
          have HW00 : Hid ((firstBad (badW ws) ws.length).1 = 0) := by rw [← HYW.out]; exact hw0
          have x0 := hD4.c0
          have x1 := hD4.c1
          have x2 := hD4.c2
          have x3 := hD4.c3
          have x4 := hD4.c4
          clear hywi hlwi hrwi hw0 HYW
          go_wp2_with fail
          obtain ⟨W4, hW4⟩ : ∃ W4, W4 = w4.alloc (.cells #[.int .i64 0, .int .i64 lwi, .int .i64 rwi] 72) := ⟨_, rfl⟩
          rw [← hW4] at hF4 hD4 hR4 hB4 hs4 f0 f1 f2 e1 e2 z0 z1 z2 x0 x1 x2 x3 x4 ⊢
          clear hW4
          clear f0 f1 f2 e1 e2 x0 x1 x2 x3 x4 z0 z1 z2 hF4
          refine (H6 W4 (fun i x hx => (hRgt.size hx).2) (HW0.out.below hB4) (HM0.out.below hB4)).mono ?_
          rintro e w5 ⟨rfl, hb5⟩
          simp only []
          obtain ⟨ymi, hymi⟩ : ∃ q : Int, q = (ym : Nat) := ⟨_, rfl⟩
          obtain ⟨lmi, hlmi⟩ : ∃ q : Int, q = ((if ym = 0 then 0 else 5 : Nat) : Int) := ⟨_, rfl⟩
          obtain ⟨rmi, hrmi⟩ : ∃ q : Int, q = (rm : Nat) := ⟨_, rfl⟩
          rw [← hymi, ← hlmi, ← hrmi]
          have hR5 := (hb5.block (z + 1) (by omega)).trans hR4
          have hB5 := hB4.trans (hb5.mono hB4.size)
          have HE3 : E = (ym, (if ym = 0 then 0 else 5 : Nat), rm) := by
            rw [HE2.out, if_neg (by simpa using HY0.out), if_neg (by simpa using HW00.out), ← HYM.out]
            by_cases hm0 : ym = 0
            · rw [if_neg (by simpa using hm0), if_pos hm0]
              have hq := HYM.out
              have hc := firstBad_cases (badM ws ms) ms.length
              rcases hc with ⟨-, h⟩ | ⟨k, h1, h2, h3, h4⟩
              · rw [h] at hq; simp only [Prod.mk.injEq] at hq; rw [hq.1, hq.2]
              · rw [h4] at hq; simp only [Prod.mk.injEq] at hq; exact absurd (hq.1.symm.trans hm0) h3
            · rw [if_pos (by simpa using hm0), if_neg hm0]
          have HE3 : Hid (E = (ym, (if ym = 0 then 0 else 5 : Nat), rm)) := HE3
          have HYMI : Hid (ymi = (ym : Nat) ∧ lmi = ((if ym = 0 then 0 else 5 : Nat) : Int) ∧ rmi = (rm : Nat)) := ⟨hymi, hlmi, hrmi⟩
          have e2 := fun j => unfrozen_of_block hR5 j
          have z0 := cell_of_block hR5 (i := 0)
          have z1 := cell_of_block hR5 (i := 1)
          have z2 := cell_of_block hR5 (i := 2)
          clear hymi hlmi hrmi H6 hD4 hR4 hB4
          go_wp2_with fail
          have hfin := wr_set hR5 (u0 := .int .i64 ymi) (u1 := .int .i64 lmi) (u2 := .int .i64 rmi)
          have hBf := wr_below hB5 (g := z + 1) (u0 := .int .i64 ymi) (u1 := .int .i64 lmi) (u2 := .int .i64 rmi) (by rw [HZ.out]; omega)
          obtain ⟨Wf, hWf⟩ : ∃ Wf, Wf = (((w5.setCell ⟨z + 1, 0, none⟩ (.int .i64 ymi)).setCell ⟨z + 1, 1, none⟩ (.int .i64 lmi)).setCell ⟨z + 1, 2, none⟩ (.int .i64 rmi)) := ⟨_, rfl⟩
          rw [← hWf] at hfin hBf ⊢
          have y0 := cell_of_block hfin (i := 0)
          have y1 := cell_of_block hfin (i := 1)
          have y2 := cell_of_block hfin (i := 2)
          exact bodyPost_ret (v := .agg #[.int .i64 ymi, .int .i64 lmi, .int .i64 rmi]) (by simp [results, Tryd.results27, go_sem, y0, y1, y2]) rfl ⟨by rw [HE3.out, HYMI.out.1, HYMI.out.2.1, HYMI.out.2.2]; rfl, hBf⟩
        · have hne : (ywi == 0) = false := by rw [hywi]; simp; omega
          have HE3 : Hid (E = (yw, 4, rw_)) := by rw [HE2.out, if_neg (by simpa using HY0.out), ← HYW.out]; exact if_pos hw0
          have hl4 : lwi = 4 := by rw [hlwi, if_neg hw0]; rfl
          subst hl4
          clear hywi hlwi hrwi HE2
          go_wp2_with fail
          obtain ⟨W4, hW4⟩ : ∃ W4, W4 = w4.alloc (.cells #[.int .i64 ywi, .int .i64 4, .int .i64 rwi] 72) := ⟨_, rfl⟩
          rw [← hW4] at hF4 hD4 hR4 hB4 hs4 f0 f1 f2 e1 e2 z0 z1 z2 ⊢
          clear hW4
          have hfin := wr_set hR4 (u0 := .int .i64 ywi) (u1 := .int .i64 4) (u2 := .int .i64 rwi)
          have hBf := wr_below hB4 (g := z + 1) (u0 := .int .i64 ywi) (u1 := .int .i64 4) (u2 := .int .i64 rwi) (by rw [HZ.out]; omega)
          obtain ⟨Wf, hWf⟩ : ∃ Wf, Wf = (((W4.setCell ⟨z + 1, 0, none⟩ (.int .i64 ywi)).setCell ⟨z + 1, 1, none⟩ (.int .i64 4)).setCell ⟨z + 1, 2, none⟩ (.int .i64 rwi)) := ⟨_, rfl⟩
          rw [← hWf] at hfin hBf ⊢
          have y0 := cell_of_block hfin (i := 0)
          have y1 := cell_of_block hfin (i := 1)
          have y2 := cell_of_block hfin (i := 2)
          exact bodyPost_ret (v := .agg #[.int .i64 ywi, .int .i64 4, .int .i64 rwi]) (by simp [results, Tryd.results27, go_sem, y0, y1, y2]) rfl ⟨by rw [HE3.out, HYWI.out.1, HYWI.out.2.2]; rfl, hBf⟩
      · have hne : (yai == 0) = false := by rw [hyai]; simp; omega
        have HE3 : Hid (E = (ya, la, ra)) := by rw [HE2.out, ← HYA.out]; exact if_pos ha0
        clear hyai hlai hrai HE2
        go_wp2_with fail
        obtain ⟨W3, hW3⟩ : ∃ W3, W3 = w3.alloc (.cells #[.int .i64 yai, .int .i64 lai, .int .i64 rai] 109) := ⟨_, rfl⟩
        rw [← hW3] at hF3 hD3 hR3 hB3 hs3 f0 f1 f2 e1 e2 z0 z1 z2 ⊢
        clear hW3
        have hfin := wr_set hR3 (u0 := .int .i64 yai) (u1 := .int .i64 lai) (u2 := .int .i64 rai)
        have hBf := wr_below hB3 (g := z + 1) (u0 := .int .i64 yai) (u1 := .int .i64 lai) (u2 := .int .i64 rai) (by rw [HZ.out]; omega)
        obtain ⟨Wf, hWf⟩ : ∃ Wf, Wf = (((W3.setCell ⟨z + 1, 0, none⟩ (.int .i64 yai)).setCell ⟨z + 1, 1, none⟩ (.int .i64 lai)).setCell ⟨z + 1, 2, none⟩ (.int .i64 rai)) := ⟨_, rfl⟩
        rw [← hWf] at hfin hBf ⊢
        have y0 := cell_of_block hfin (i := 0)
        have y1 := cell_of_block hfin (i := 1)
        have y2 := cell_of_block hfin (i := 2)
        exact bodyPost_ret (v := .agg #[.int .i64 yai, .int .i64 lai, .int .i64 rai]) (by simp [results, Tryd.results27, go_sem, y0, y1, y2]) rfl ⟨by rw [HE3.out, HYAI.out.1, HYAI.out.2.1, HYAI.out.2.2]; rfl, hBf⟩
    · have g2 : ((ws.length : Int) == (ms.length : Int)) = false := by simp; omega
      have HE2 : Hid (E = (4, 4, min ws.length ms.length)) := (by rw [HE.out]; unfold checkD; rw [if_neg h1, if_pos h2] : E = (4, 4, min ws.length ms.length))
      have x0 := hD2.c0
      have x1 := hD2.c1
      clear hR2 hB2 hD2 HE
      by_cases hlt : ms.length < ws.length
      · have g3 : decide ((ms.length : Int) < (ws.length : Int)) = true := decide_eq_true (by omega)
        have HQ : Hid (min ws.length ms.length = ms.length) := by show min _ _ = _; omega
        go_enter Tryd.func27, Tryd.ntmps27
        go_wp2_with fail
        exact bodyPost_ret (v := .agg #[.int .i64 4, .int .i64 4, .int .i64 (ms.length : Int)]) (by simp [results, Tryd.results27, go_sem]) rfl ⟨by rw [HE2.out, HQ.out]; rfl, hb.alloc hb.size _⟩
      · have g3 : decide ((ms.length : Int) < (ws.length : Int)) = false := decide_eq_false (by omega)
        have HQ : Hid (min ws.length ms.length = ws.length) := by show min _ _ = _; omega
        go_enter Tryd.func27, Tryd.ntmps27
        go_wp2_with fail
        exact bodyPost_ret (v := .agg #[.int .i64 4, .int .i64 4, .int .i64 (ws.length : Int)]) (by simp [results, Tryd.results27, go_sem]) rfl ⟨by rw [HE2.out, HQ.out]; rfl, hb.alloc hb.size _⟩
end Go.Proofs.YtjbdhakogbolkaaDoor
end
