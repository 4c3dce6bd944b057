/- The document's own In: its contract. -/
import Derived.Test.YtlnebbciefdpoaaDoorSIn
namespace Go.Proofs.YtlnebbciefdpoaaDoor
open Go.RowKit Go.Sort
set_option maxHeartbeats 2000000 in
theorem refIn_any (a : Option Addr) (cap : Nat) (l : List Sp) (r : Int) (w : World) (hlen : l.length ≤ 9223372036854775807) (h : SPS w a l) :
    Calls Tryd.prog 69 #[.slice a l.length cap, .int .i32 r] w fun e w' => e = .returned (.bool (inB l r)) ∧ Below w.heap.size w w' := by
  obtain ⟨B, hB⟩ : ∃ B, B = inB l r := ⟨_, rfl⟩
  have HB : Hid (B = inB l r) := hB
  rw [← hB]
  clear hB
  obtain ⟨n, hn⟩ : ∃ n, n = l.length := ⟨_, rfl⟩
  have HN : Hid (n = l.length) := hn
  rw [← hn] at hlen ⊢
  clear hn
  go_enter Tryd.func69, Tryd.ntmps69
  go_wp2
  go_loopw [5] (fun i wr => ∃ k : Nat, k ≤ n ∧ i = .int .i64 k ∧ wr = w ∧ ∀ (i : Nat) (x : Sp), l[i]? = some x → i < k → ¬ (x.lo ≤ r ∧ r ≤ x.hi)) (fun i _ => n - (intOf i).toNat)
  case atStart => exact ⟨0, Nat.zero_le _, rfl, rfl, fun i x _ hi => absurd hi (Nat.not_lt_zero _)⟩
  case round =>
    obtain ⟨k, hk, rfl, rfl, hF⟩ := hrel
    by_cases hlt : k < n
    · have hkl : k < l.length := by rw [← HN.out]; exact hlt
      rcases h with h | ⟨b, off, rfl, hc⟩
      · subst h; simp at hkl
      obtain ⟨x, hx⟩ : ∃ x, l[k]? = some x := ⟨l[k], List.getElem?_eq_getElem hkl⟩
      obtain ⟨c0, c1⟩ := hc k x hx
      have HX : Hid (l[k]? = some x) := hx
      have next : ¬ (x.lo ≤ r ∧ r ≤ x.hi) → ∀ (i : Nat) (y : Sp), l[i]? = some y → i < k + 1 → ¬ (y.lo ≤ r ∧ r ≤ y.hi) := fun hn i y hy hi => by
        by_cases e : i = k
        · subst e
          have := HX.out.symm.trans hy
          cases this
          exact hn
        · exact hF i y hy (by omega)
      clear hc hx
      by_cases h1 : x.lo ≤ r
      · have d1 : decide (x.lo ≤ r) = true := decide_eq_true h1
        by_cases h2 : r ≤ x.hi
        · have d2 : decide (r ≤ x.hi) = true := decide_eq_true h2
          have hE : B = runeB r := by rw [HB.out, inB_eq, lies_true HX.out h1 h2, Bool.and_true]
          have hE : Hid (B = runeB r) := hE
          clear next
          go_wp2_with fail
          refine (refRune_any r _).mono ?_
          rintro e w1 ⟨rfl, he⟩
          obtain rfl := he.symm
          go_wp2_with fail
          go_ret
          exact ⟨by rw [hE.out]; rfl, Below.refl _ _⟩
        · have d2 : decide (r ≤ x.hi) = false := decide_eq_false h2
          go_wp2_with fail
          exact ⟨⟨k + 1, by omega, by go_num, trivial, next (fun h => h2 h.2)⟩, by simp only [intOf]; omega⟩
      · have d1 : decide (x.lo ≤ r) = false := decide_eq_false h1
        go_wp2_with fail
        exact ⟨⟨k + 1, by omega, by go_num, trivial, next (fun h => h1 h.1)⟩, by simp only [intOf]; omega⟩
    · have hkn : k = n := by omega
      subst hkn
      have hE : B = false := by
        rw [HB.out, inB_eq, lies_false (fun i x hx => hF i x hx (by rw [HN.out]; exact (List.getElem?_eq_some_iff.1 hx).1)), Bool.and_false]
      subst hE
      go_wp2_with fail
      go_ret
      exact ⟨rfl, Below.refl _ _⟩
end Go.Proofs.YtlnebbciefdpoaaDoor
