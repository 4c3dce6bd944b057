/- spans.Meet: its contract. -/
import Derived.Test.YtlnebbciefdpoaaDoorSRight
namespace Go.Proofs.YtlnebbciefdpoaaDoor
open Go.RowKit Go.Sort
theorem ov_nothing (x y : Sp) (v : Bool) (h : ovB x y = v) : (!spEq (comL x y) ⟨0, -1⟩) = v := by
  rw [← h]
  unfold spEq comL ovB
  by_cases h1 : min x.hi y.hi < max x.lo y.lo
  · rw [if_pos h1]
    simp
    omega
  · rw [if_neg h1, decide_eq_true (by omega : max x.lo y.lo ≤ min x.hi y.hi)]
    simp only [Bool.not_eq_true', Bool.and_eq_false_iff, beq_eq_false_iff_ne]
    omega
/-- Nothing ahead of i, or ahead of j, is of use any more. -/
def Past (a b : List Sp) (i j : Nat) : Prop := ∀ (p : Nat) (x : Sp) (q : Nat) (y : Sp), a[p]? = some x → b[q]? = some y → (p < i ∨ q < j) → ovB x y = false
theorem Past.zero (a b : List Sp) : Past a b 0 0 := fun _ _ _ _ _ _ h => by omega
theorem ovB_false {x y : Sp} : ovB x y = false ↔ min x.hi y.hi < max x.lo y.lo := by unfold ovB; simp
theorem Past.left {a b : List Sp} {i j : Nat} {x y : Sp} (h : Past a b i j) (ha : Rgt a) (hb : Rgt b) (hx : a[i]? = some x) (hy : b[j]? = some y) (ho : ovB x y = false) (hl : x.hi < y.hi) : Past a b (i + 1) j := by
  intro p u q v hu hv hpq
  by_cases e : p = i
  · subst e
    rw [hx] at hu
    cases hu
    rw [ovB_false] at ho ⊢
    have r1 := (ha.row hx).2.2
    by_cases e2 : q < j
    · have := h p x q v hx hv (.inr e2)
      rwa [ovB_false] at this
    · by_cases e3 : q = j
      · subst e3
        rw [hy] at hv
        cases hv
        exact ho
      · have := hb.rise (show j < q by omega) hy hv
        omega
  · exact h p u q v hu hv (by omega)
theorem Past.right {a b : List Sp} {i j : Nat} {x y : Sp} (h : Past a b i j) (ha : Rgt a) (hb : Rgt b) (hx : a[i]? = some x) (hy : b[j]? = some y) (ho : ovB x y = false) (hl : ¬ x.hi < y.hi) : Past a b i (j + 1) := by
  intro p u q v hu hv hpq
  by_cases e : q = j
  · subst e
    rw [hy] at hv
    cases hv
    rw [ovB_false] at ho ⊢
    have r1 := (hb.row hy).2.2
    by_cases e2 : p < i
    · have := h p u q y hu hy (.inl e2)
      rwa [ovB_false] at this
    · by_cases e3 : p = i
      · subst e3
        rw [hx] at hu
        cases hu
        exact ho
      · have := ha.rise (show i < p by omega) hx hu
        omega
  · exact h p u q v hu hv (by omega)
def meetV (r : Nat × Bool) : Value := .tuple #[.int .i64 (r.1 : Nat), .bool r.2]
theorem meetV_some {a b : List Sp} {i j : Nat} {x y : Sp} (h : Past a b i j) (hx : a[i]? = some x) (hy : b[j]? = some y) (ho : ovB x y = true) : meetV (meetA a b) = .tuple #[.int .i64 (i : Nat), .bool true] := by
  rw [meetA_some hx (fun p u hp hu => meets_false fun q v hv => h p u q v hu hv (.inl hp)) (meets_true.2 ⟨j, y, hy, ho⟩)]; rfl
theorem meetV_none {a b : List Sp} {i j : Nat} (h : Past a b i j) (he : a.length ≤ i ∨ b.length ≤ j) : meetV (meetA a b) = .tuple #[.int .i64 0, .bool false] := by
  rw [meetA_none (fun p u hu => meets_false fun q v hv => h p u q v hu hv (by
    have h1 := (List.getElem?_eq_some_iff.1 hu).1
    have h2 := (List.getElem?_eq_some_iff.1 hv).1
    omega))]; rfl
set_option maxHeartbeats 4000000 in
theorem meet_any (a b : Option Addr) (ca cb : Nat) (A B : List Sp) (w : World) (hla : A.length ≤ 9223372036854775807) (hlb : B.length ≤ 9223372036854775807) (hA : SPS w a A) (hB : SPS w b B) (hRa : Rgt A) (hRb : Rgt B) (hG : GL w) :
    Calls Tryd.prog 80 #[.slice a A.length ca, .slice b B.length cb] w fun e w' => e = .returned (meetV (meetA A B)) ∧ Below w.heap.size w w' := by
  obtain ⟨R, hR⟩ : ∃ R, R = meetV (meetA A B) := ⟨_, rfl⟩
  have HR : Hid (R = meetV (meetA A B)) := hR
  rw [← hR]
  clear hR
  obtain ⟨n, hn⟩ : ∃ n, n = A.length := ⟨_, rfl⟩
  have HN : Hid (n = A.length) := hn
  obtain ⟨m, hm⟩ : ∃ m, m = B.length := ⟨_, rfl⟩
  have HM : Hid (m = B.length) := hm
  rw [← hn] at hla ⊢
  rw [← hm] at hlb ⊢
  clear hn hm
  go_enter Tryd.func80, Tryd.ntmps80
  go_wp2
  go_loopw [6, 7] (fun i j wr => ∃ p q : Nat, p ≤ n ∧ q ≤ m ∧ i = .int .i64 p ∧ j = .int .i64 q ∧ Below w.heap.size w wr ∧ Past A B p q) (fun i j _ => (n - (intOf i).toNat) + (m - (intOf j).toNat))
  case atStart => exact ⟨0, 0, Nat.zero_le _, Nat.zero_le _, rfl, rfl, Below.refl _ _, Past.zero A B⟩
  case round =>
    obtain ⟨p, q, hp, hq, rfl, rfl, hbr, hP⟩ := hrel
    by_cases hlp : p < n
    · have dp : decide (p < n) = true := decide_eq_true hlp
      by_cases hlq : q < m
      · have hpl : p < A.length := by rw [← HN.out]; exact hlp
        have hql : q < B.length := by rw [← HM.out]; exact hlq
        rcases hA with h | ⟨ba, oa, rfl, hA⟩
        · subst h; simp at hpl
        rcases hB with h | ⟨bb, ob, rfl, hB⟩
        · subst h; simp at hql
        obtain ⟨x, hx⟩ : ∃ x, A[p]? = some x := ⟨_, List.getElem?_eq_getElem hpl⟩
        obtain ⟨y, hy⟩ : ∃ y, B[q]? = some y := ⟨_, List.getElem?_eq_getElem hql⟩
        obtain ⟨x0, x1⟩ := (hA p x hx).below hbr
        obtain ⟨y0, y1⟩ := (hB q y hy).below hbr
        have hGr := hG.below hbr
        obtain ⟨g0, g1, -⟩ := hGr.cells
        have HX : Hid (A[p]? = some x) := hx
        have HY : Hid (B[q]? = some y) := hy
        clear hA hB hx hy hpl hql hG
        have HC := fun d os => common_any x y (grow (redrawn wr d) os) (hGr.below (below_regrown wr d os))
        unfold spv at HC
        obtain ⟨v, hv⟩ : ∃ v, ovB x y = v := ⟨_, rfl⟩
        have HE := eqIn_sp (comL x y) ⟨0, -1⟩ (!v) (by rw [← ov_nothing x y v hv]; simp)
        have HF := neq_sp (comL x y) ⟨0, -1⟩ v (ov_nothing x y v hv)
        have HV : Hid (ovB x y = v) := hv
        clear hv
        obtain ⟨c, hc⟩ : ∃ c, c = comL x y := ⟨_, rfl⟩
        rw [← hc] at HC HE HF
        clear hc
        dsimp only at HE HF HC
        have k0 := cell_regrown x0
        have k1 := cell_regrown x1
        have l0 := cell_regrown y0
        have l1 := cell_regrown y1
        have e0 := cell_regrown g0
        have e1 := cell_regrown g1
        go_wp2_with fail
        refine wp_region_quiet_below (by kernel_rfl) (by kernel_rfl) ?_
        repeat (go_big_quiet_step ((go_at_call 83; exact Calls.regrown_of (HC _ _))))
        refine wpQuiet_nil ?_
        intro W5 hw'
        have hb5 : Below wr.heap.size wr W5 := by
          obtain ⟨⟨dq, osq⟩, rfl⟩ := hw'
          exact below_regrown _ _ _
        have k0 := (SpAt.below ⟨x0, x1⟩ hb5).1
        have k1 := (SpAt.below ⟨x0, x1⟩ hb5).2
        have l0 := (SpAt.below ⟨y0, y1⟩ hb5).1
        have l1 := (SpAt.below ⟨y0, y1⟩ hb5).2
        have hB5 : Below w.heap.size w W5 := hbr.trans (hb5.mono hbr.size)
        clear hw' HE HF HC e0 e1 x0 x1 y0 y1 g0 g1 hGr hb5 hbr
        cases v with
        | true =>
          have hE : Hid (R = .tuple #[.int .i64 (p : Nat), .bool true]) := by show R = _; rw [HR.out]; exact meetV_some hP HX.out HY.out HV.out
          clear k0 k1 l0 l1
          go_wp2_with fail
          exact bodyPost_ret (v := .tuple #[.int .i64 (p : Nat), .bool true]) (by simp [results, Tryd.results80, go_sem]) rfl ⟨by rw [hE.out], hB5⟩
        | false =>
          by_cases hh : x.hi < y.hi
          · have dd : decide (x.hi < y.hi) = true := decide_eq_true hh
            have hP' := hP.left hRa hRb HX.out HY.out HV.out hh
            clear hP
            go_wp2_with fail
            go_quiet (fail)
            go_wp2_with fail
            exact ⟨⟨p + 1, q, by omega, hq, by go_num, rfl, below_drewN hB5 nq, hP'⟩, by simp only [intOf]; omega⟩
          · have dd : decide (x.hi < y.hi) = false := decide_eq_false hh
            have hP' := hP.right hRa hRb HX.out HY.out HV.out hh
            clear hP
            go_wp2_with fail
            go_quiet (fail)
            go_wp2_with fail
            exact ⟨⟨p, q + 1, hp, by omega, rfl, by go_num, below_drewN hB5 nq, hP'⟩, by simp only [intOf]; omega⟩
      · have hqm : q = m := by omega
        subst hqm
        have hE : Hid (R = .tuple #[.int .i64 0, .bool false]) := by show R = _; rw [HR.out]; exact meetV_none hP (.inr (by rw [HM.out]; exact Nat.le_refl _))
        have dq : decide (q < q) = false := by simp
        go_wp2_with fail
        exact bodyPost_ret (v := .tuple #[.int .i64 0, .bool false]) (by simp [results, Tryd.results80, go_sem]) rfl ⟨by rw [hE.out], hbr⟩
    · have hpn : p = n := by omega
      subst hpn
      have hE : Hid (R = .tuple #[.int .i64 0, .bool false]) := by show R = _; rw [HR.out]; exact meetV_none hP (.inl (by rw [HN.out]; exact Nat.le_refl _))
      go_wp2_with fail
      exact bodyPost_ret (v := .tuple #[.int .i64 0, .bool false]) (by simp [results, Tryd.results80, go_sem]) rfl ⟨by rw [hE.out], hbr⟩
end Go.Proofs.YtlnebbciefdpoaaDoor
