/- The document's own Rune and Right: their contracts. -/
import Derived.Test.YtlnebbciefdpoaaDoorSRight
namespace Go.Proofs.YtlnebbciefdpoaaDoor
open Go.RowKit Go.Sort
theorem refRune_any (r : Int) (w : World) : Calls Tryd.prog 78 #[.int .i32 r] w fun e w' => e = .returned (.bool (runeB r)) ∧ w' = w := by
  unfold runeB
  by_cases h1 : 0 ≤ r
  · have d1 : decide (0 ≤ r) = true := decide_eq_true h1
    by_cases h2 : r ≤ 1114111
    · have d2 : decide (r ≤ 1114111) = true := decide_eq_true h2
      by_cases h3 : r < 55296
      · have d3 : decide (r < 55296) = true := decide_eq_true h3
        rw [d1, d2, d3]
        go_enter Tryd.func78, Tryd.ntmps78
        go_wp2
        go_ret
        exact ⟨rfl, rfl⟩
      · have d3 : decide (r < 55296) = false := decide_eq_false h3
        by_cases h4 : 57343 < r
        · have d4 : decide (57343 < r) = true := decide_eq_true h4
          rw [d1, d2, d3, d4]
          go_enter Tryd.func78, Tryd.ntmps78
          go_wp2
          go_ret
          exact ⟨rfl, rfl⟩
        · have d4 : decide (57343 < r) = false := decide_eq_false h4
          rw [d1, d2, d3, d4]
          go_enter Tryd.func78, Tryd.ntmps78
          go_wp2
          go_ret
          exact ⟨rfl, rfl⟩
    · have d2 : decide (r ≤ 1114111) = false := decide_eq_false h2
      rw [d1, d2]
      go_enter Tryd.func78, Tryd.ntmps78
      go_wp2
      go_ret
      exact ⟨rfl, rfl⟩
  · have d1 : decide (0 ≤ r) = false := decide_eq_false h1
    rw [d1]
    go_enter Tryd.func78, Tryd.ntmps78
    go_wp2
    go_ret
    exact ⟨rfl, rfl⟩
set_option maxHeartbeats 2000000 in
theorem refRight_any (a : Option Addr) (cap : Nat) (l : List Sp) (w : World) (hlen : l.length ≤ 9223372036854775807) (h : SPS w a l) :
    Calls Tryd.prog 67 #[.slice a l.length cap] w fun e w' => e = .returned (rowV (rightA l)) ∧ Below w.heap.size w w' := by
  obtain ⟨n, hn⟩ : ∃ n, n = l.length := ⟨_, rfl⟩
  have HN : Hid (n = l.length) := hn
  rw [← hn] at hlen ⊢
  clear hn
  obtain ⟨R, hR⟩ : ∃ R, R = rowV (rightA l) := ⟨_, rfl⟩
  have HR : Hid (R = rowV (rightA l)) := hR
  rw [← hR]
  clear hR
  go_enter Tryd.func67, Tryd.ntmps67
  go_wp2
  go_loopw [4] (fun i wr => ∃ k : Nat, k ≤ n ∧ i = .int .i64 k ∧ Below w.heap.size w wr ∧ Free l k) (fun i _ => n - (intOf i).toNat)
  case atStart => exact ⟨0, Nat.zero_le _, rfl, Below.refl _ _, Free.zero l⟩
  case round =>
    obtain ⟨k, hk, rfl, hbr, hF⟩ := hrel
    by_cases hlt : k < n
    · have hkl : k < l.length := by rw [← HN.out]; exact hlt
      rcases h with h | ⟨b, off, rfl, hc⟩
      · subst h; simp at hkl
      obtain ⟨x, hx⟩ : ∃ x, l[k]? = some x := ⟨l[k], List.getElem?_eq_getElem hkl⟩
      obtain ⟨c0, c1⟩ := (hc k x hx).below hbr
      have HC : Hid (∀ i x, l[i]? = some x → SpAt w b (off + i * 2) x) := hc
      have HX : Hid (l[k]? = some x) := hx
      clear hc hx
      go_wp2_with fail
      refine (refRune_any x.lo _).mono ?_
      rintro e w1 ⟨rfl, he⟩
      obtain rfl := he.symm
      have RET : ∀ (e : Nat), badAt l k = e → e ≠ 0 → Hid (R = .tuple #[.int .i64 (k : Nat), .int .i64 (e : Nat)]) := fun e he h0 => by
        rw [HR.out]; exact rowV_at hkl hF he h0
      cases hr1 : runeB x.lo with
      | false =>
        have hE := RET 14 (badAt_14 HX.out (.inl hr1)) (by decide)
        clear hr1 c0 c1 RET
        go_wp2_with fail
        exact bodyPost_ret (v := .tuple #[.int .i64 (k : Nat), .int .i64 14]) (by simp [results, Tryd.results67, go_sem]) rfl ⟨by rw [hE.out]; rfl, hbr⟩
      | true =>
        go_wp2_with fail
        refine (refRune_any x.hi _).mono ?_
        rintro e w2 ⟨rfl, he⟩
        obtain rfl := he.symm
        cases hr2 : runeB x.hi with
        | false =>
          have hE := RET 14 (badAt_14 HX.out (.inr hr2)) (by decide)
          clear hr1 hr2 c0 c1 RET
          go_wp2_with fail
          exact bodyPost_ret (v := .tuple #[.int .i64 (k : Nat), .int .i64 14]) (by simp [results, Tryd.results67, go_sem]) rfl ⟨by rw [hE.out]; rfl, hbr⟩
        | true =>
          by_cases hlo : x.hi < x.lo
          · have hE := RET 15 (badAt_15a HX.out hr1 hr2 hlo) (by decide)
            have hd : decide (x.hi < x.lo) = true := decide_eq_true hlo
            clear hr1 hr2 RET hlo
            go_wp2_with fail
            go_quiet (fail)
            go_wp2_with fail
            exact bodyPost_ret (v := .tuple #[.int .i64 (k : Nat), .int .i64 15]) (by simp [results, Tryd.results67, go_sem]) rfl ⟨by rw [hE.out]; rfl, below_drewN hbr nq⟩
          · have hd : decide (x.hi < x.lo) = false := decide_eq_false hlo
            cases k with
            | zero =>
              have h0 := badAt_0 HX.out hr1 hr2 hlo
              simp only [Nat.zero_mul, Nat.add_zero] at c0 c1
              clear hr1 hr2 RET hlo
              go_wp2_with fail
              go_quiet (fail)
              go_wp2_with fail
              exact ⟨⟨1, by omega, rfl, below_drewN hbr nq, hF.succ h0⟩, by simp only [intOf]; omega⟩
            | succ j =>
              obtain ⟨y, hy⟩ : ∃ y, l[j]? = some y := ⟨l[j], List.getElem?_eq_getElem (by omega)⟩
              obtain ⟨-, y1⟩ := ((HC.out j y hy).below hbr)
              have HY : Hid (l[j]? = some y) := hy
              clear hy
              have hdk : decide (0 < ((j + 1 : Nat) : Int)) = true := by simp
              by_cases hle : x.lo ≤ y.hi
              · have hE := RET 15 (badAt_15b HX.out HY.out hr1 hr2 hle) (by decide)
                have hd2 : decide (x.lo ≤ y.hi) = true := decide_eq_true hle
                clear hr1 hr2 RET hlo hle
                go_wp2_with fail
                go_quiet (fail)
                go_wp2_with fail
                exact bodyPost_ret (v := .tuple #[.int .i64 ((j : Int) + 1), .int .i64 15]) (by simp [results, Tryd.results67, go_sem]) rfl ⟨by rw [hE.out]; rfl, below_drewN hbr nq⟩
              · have hd2 : decide (x.lo ≤ y.hi) = false := decide_eq_false hle
                have h0 := badAt_s HX.out HY.out hr1 hr2 hlo hle
                clear hr1 hr2 RET hlo hle
                go_wp2_with fail
                go_quiet (fail)
                go_wp2_with fail
                exact ⟨⟨j + 1 + 1, by omega, by go_num, below_drewN hbr nq, hF.succ h0⟩, by simp only [intOf]; omega⟩
    · have hkn : k = n := by omega
      subst hkn
      rw [HN.out] at hF
      have hE := rowV_none hF
      rw [← HR.out] at hE
      have hE : Hid (R = .tuple #[.int .i64 0, .int .i64 0]) := hE
      go_wp2_with fail
      exact bodyPost_ret (v := .tuple #[.int .i64 0, .int .i64 0]) (by simp [results, Tryd.results67, go_sem]) rfl ⟨by rw [hE.out], hbr⟩
end Go.Proofs.YtlnebbciefdpoaaDoor
