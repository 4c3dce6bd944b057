/- tesseralaw8.count: its contract; the mathematics of the laws. -/
import Derived.Test.YtmfbeelnhihlaaaHPOf
import Derived.Test.YtmfbeelnhihlaaaHINum
namespace Go.Proofs.Ytmfbeelnhihlaaa.HP
open Go.RowKit Go.Joins Go.Sort
set_option linter.unusedVariables false
set_option linter.unusedSimpArgs false
set_option maxRecDepth 100000
def countF (l : List El) (x : El) : Nat := l.countP fun y => spEq y x
theorem countF_step (l : List El) (x : El) (k : Nat) (y : El) (h : l[k]? = some y) : countF (l.take (k + 1)) x = countF (l.take k) x + (if spEq y x then 1 else 0) := by
  have hk := (List.getElem?_eq_some_iff.1 h).1
  have e : l.take (k + 1) = l.take k ++ [y] := by rw [List.take_add_one, h]; rfl
  unfold countF
  rw [e, List.countP_append]
  by_cases hs : spEq y x = true
  · simp [hs]
  · simp [hs]
theorem countF_le (l : List El) (x : El) : countF l x ≤ l.length := List.countP_le_length
theorem countF_perm {l m : List El} (h : l.Perm m) (x : El) : countF l x = countF m x := h.countP_eq _
set_option maxHeartbeats 1000000 in
theorem count_any (a : Option Addr) (cap : Nat) (l : List El) (x : El) (w : World) (hlen : l.length ≤ 1099511627776) (h : SPS w a l) :
    Calls Try.prog 22 #[.slice a l.length cap, valE x] w fun e w' => e = .returned (.int .i64 (countF l x : Nat)) ∧ Below w.heap.size w w' := by
  obtain ⟨n, hn⟩ : ∃ n, n = l.length := ⟨_, rfl⟩
  have HN : Hid (n = l.length) := hn
  rw [← hn] at hlen ⊢
  clear hn
  obtain ⟨R, hR⟩ : ∃ R, R = countF l x := ⟨_, rfl⟩
  rw [← hR]
  have HR : Hid (R = countF l x) := hR
  clear hR
  have b0 := (Below.refl w.heap.size w).alloc (Nat.le_refl _) (.cells #[.int .i64 x.1, .int .i64 x.2] 34)
  have p0 : SpAt (w.alloc (.cells #[.int .i64 x.1, .int .i64 x.2] 34)) w.heap.size 0 x := ⟨by simp [go_sem], by simp [go_sem]⟩
  unfold valE
  go_enter Try.func22, Try.ntmps22
  go_wp2_with fail
  refine wp_named fun X hX => ?_
  rw [← hX] at b0 p0
  clear hX
  go_loopw [5, 6] (fun c i wr => ∃ k : Nat, k ≤ n ∧ i = .int .i64 (k : Nat) ∧ c = .int .i64 (countF (l.take k) x : Nat) ∧ Below X.heap.size X wr) (fun _ i _ => n - (intOf i).toNat)
  case atStart => exact ⟨0, Nat.zero_le _, rfl, rfl, Below.refl _ _⟩
  case round =>
    obtain ⟨k, hk, rfl, rfl, hbr⟩ := hrel
    by_cases hlt : k < n
    · have hkl : k < l.length := by rw [← HN.out]; exact hlt
      have hnil : l ≠ [] := fun e => by rw [e] at hkl; simp at hkl
      rcases h with h | ⟨ga, oa, rfl, ha⟩
      · exact absurd h hnil
      obtain ⟨y, hy⟩ : ∃ y, l[k]? = some y := ⟨l[k], List.getElem?_eq_getElem hkl⟩
      obtain ⟨a0, a1⟩ := ((ha k y hy).below b0).below hbr
      obtain ⟨m0, m1⟩ := p0.below hbr
      rw [Nat.zero_add] at m1
      obtain ⟨v, hv⟩ : ∃ v, spEq y x = v := ⟨_, rfl⟩
      have HE := eqIn_sp y x v hv
      have HF := eql_sp y x v hv
      have hst := countF_step l x k y hy
      rw [hv] at hst
      have HST : Hid (countF (l.take (k + 1)) x = countF (l.take k) x + (if v then 1 else 0)) := hst
      have hle : countF (l.take k) x ≤ n := by
        have := countF_le (l.take k) x
        simp at this
        omega
      generalize countF (l.take k) x = c at *
      clear ha hnil hkl hy hv hst
      go_wp2_with fail
      go_quiet (fail)
      cases v with
      | true =>
        go_wp2_with fail
        exact ⟨⟨k + 1, by omega, by go_num, by rw [HST.out]; go_num, below_drewN hbr nq⟩, by simp only [intOf]; omega⟩
      | false =>
        go_wp2_with fail
        exact ⟨⟨k + 1, by omega, by go_num, by rw [HST.out]; go_num, below_drewN hbr nq⟩, by simp only [intOf]; omega⟩
    · have hkn : k = n := by omega
      subst hkn
      have hR2 : countF (l.take k) x = R := by rw [HR.out, HN.out, List.take_length]
      rw [hR2]
      clear hR2
      go_wp2_with fail
      go_ret
      exact ⟨rfl, b0.trans (hbr.mono b0.size)⟩
end Go.Proofs.Ytmfbeelnhihlaaa.HP
