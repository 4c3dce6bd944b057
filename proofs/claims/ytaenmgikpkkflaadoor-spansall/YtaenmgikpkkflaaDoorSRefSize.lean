/- The document's own Size: its contract. -/
import Derived.Test.YtaenmgikpkkflaaDoorSSizeMath
import Derived.Test.YtaenmgikpkkflaaDoorSRefRight
namespace Go.Proofs.YtaenmgikpkkflaaDoor
open Go.RowKit Go.Sort
set_option maxHeartbeats 2000000 in
theorem refSize_any (a : Option Addr) (cap : Nat) (l : List Sp) (w : World) (hlen : l.length ≤ 9223372036854775807) (h : SPS w a l) (hR : Rgt l) :
    Calls Tryd.prog 18 #[.slice a l.length cap] w fun e w' => e = .returned (.int .i64 (sizeA l)) ∧ Below w.heap.size w w' := by
  obtain ⟨S, hS⟩ : ∃ S, S = sizeA l := ⟨_, rfl⟩
  have HS : Hid (S = sizeA l) := hS
  rw [← hS]
  clear hS
  obtain ⟨n, hn⟩ : ∃ n, n = l.length := ⟨_, rfl⟩
  have HN : Hid (n = l.length) := hn
  rw [← hn] at hlen ⊢
  clear hn
  go_enter Tryd.func18, Tryd.ntmps18
  go_wp2
  go_loopw [3, 4] (fun s i wr => ∃ k : Nat, k ≤ n ∧ s = .int .i64 (sizeT l k) ∧ i = .int .i64 k ∧ Below w.heap.size w wr) (fun _ i _ => n - (intOf i).toNat)
  case atStart => exact ⟨0, Nat.zero_le _, rfl, rfl, Below.refl _ _⟩
  case round =>
    obtain ⟨k, hk, rfl, rfl, hbr⟩ := hrel
    by_cases hlt : k < n
    · have hkl : k < l.length := by rw [← HN.out]; exact hlt
      rcases h with h | ⟨b, off, rfl, hc⟩
      · subst h; simp at hkl
      obtain ⟨x, hx⟩ : ∃ x, l[k]? = some x := ⟨l[k], List.getElem?_eq_getElem hkl⟩
      obtain ⟨c0, c1⟩ := (hc k x hx).below hbr
      obtain ⟨r1, r2, r3⟩ := hR.row hx
      rw [runeB_iff] at r1 r2
      obtain ⟨z0, z1⟩ := sizeT_le hR k x hx
      have hsu : Hid (sizeT l (k + 1) = sizeT l k + cnt x) := sizeT_succ hx
      obtain ⟨T, hT⟩ : ∃ T, T = sizeT l k := ⟨_, rfl⟩
      rw [← hT] at hsu z0 z1 ⊢
      clear hc hx hT
      by_cases h1 : x.lo < 55296
      · have d1 : decide (x.lo < 55296) = true := decide_eq_true h1
        by_cases h2 : 57343 < x.hi
        · have d2 : decide (57343 < x.hi) = true := decide_eq_true h2
          go_wp2_with fail
          go_quiet (fail)
          go_wp2_with fail
          exact ⟨⟨k + 1, by omega, by rw [hsu.out]; unfold cnt wid; rw [if_pos ⟨h1, h2⟩]; congr 1; omega, by go_num, below_drewN hbr nq⟩, by simp only [intOf]; omega⟩
        · have d2 : decide (57343 < x.hi) = false := decide_eq_false h2
          go_wp2_with fail
          go_quiet (fail)
          go_wp2_with fail
          exact ⟨⟨k + 1, by omega, by rw [hsu.out]; unfold cnt wid; rw [if_neg (by omega)]; congr 1; omega, by go_num, below_drewN hbr nq⟩, by simp only [intOf]; omega⟩
      · have d1 : decide (x.lo < 55296) = false := decide_eq_false h1
        go_wp2_with fail
        go_quiet (fail)
        go_wp2_with fail
        exact ⟨⟨k + 1, by omega, by rw [hsu.out]; unfold cnt wid; rw [if_neg (by omega)]; congr 1; omega, by go_num, below_drewN hbr nq⟩, by simp only [intOf]; omega⟩
    · have hkn : k = n := by omega
      subst hkn
      have hE : Hid (S = sizeT l k) := by show S = _; rw [HS.out, sizeA, HN.out]
      go_wp2_with fail
      go_ret
      exact ⟨by rw [hE.out]; rfl, hbr⟩
end Go.Proofs.YtaenmgikpkkflaaDoor
