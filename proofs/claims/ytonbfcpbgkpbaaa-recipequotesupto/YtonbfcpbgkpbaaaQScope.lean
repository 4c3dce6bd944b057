/- A scope with labels: what holds at each, by a number that falls. recipe's read, stands: their contracts. -/
import Derived.Test.YtonbfcpbgkpbaaaQPB
namespace Go.Proofs.Ytonbfcpbgkpbaaa
open Go.RowKit Go.Sort Go.Joins
set_option linter.unusedVariables false
set_option maxRecDepth 100000
theorem viaL_mono {L L' : Nat → Act → World → Prop} {Q : Exit → Act → World → Prop} (h : ∀ l a w, L l a w → L' l a w) : ∀ e a w, viaL L Q e a w → viaL L' Q e a w := by
  intro e a w hv
  cases e <;> first | exact h _ _ _ hv | exact hv
/-- Of whatever holds at the labels, where each way from one label to the next lowers a number. -/
theorem on_all {P : Program} {c : Code} {Q : Exit → Act → World → Prop} (J : Nat → Nat → Act → World → Prop)
    (step : ∀ n l a w, J n l a w → ∃ rest, findLabel c l = some (.seq .skip rest) ∧ rest.wp P (viaL (fun l' a' w' => ∃ m, m < n ∧ J m l' a' w') Q) a w) :
    ∀ n l a w, J n l a w → On P c Q l a w := by
  intro n
  induction n using Nat.strongRecOn with
  | _ n ih =>
    intro l a w h
    obtain ⟨rest, hf, hr⟩ := step n l a w h
    refine on_label hf (wp_seq (wp_skip (show Exit.then _ _ .normal _ _ from Code.wp_mono ?_ hr)))
    exact viaL_mono fun l' a' w' ⟨m, hm, hJ⟩ => ih m hm l' a' w' hJ
def nextP (l : List UInt8) (p : Nat) : Nat := if p < l.length then p + 1 else p
set_option maxHeartbeats 1000000 in
theorem read_any (g : Nat) (s : PZ) (w : World) (h : PB w g s) (hp : s.p ≤ s.src.size) (hs : s.src.size ≤ 4194304) :
    Calls Try.prog 77 #[.pointer (some ⟨g, 0, none⟩)] w fun e w' => e = .returned (.int .i64 (hereI (tl s.src) s.p)) ∧ PB w' g { s with p := nextP (tl s.src) s.p } ∧ But g w.heap.size w w' := by
  have hH := fun wx (hx : PB wx g s) => here_any g s wx hx hp (by omega)
  have hg := hereI_ge (tl s.src) s.p
  unfold nextP
  rw [tl_len]
  by_cases hlt : s.p < s.src.size
  · rw [if_pos hlt]
    have hne : (hereI (tl s.src) s.p == -1) = false := by
      rw [hereI_at (l := tl s.src) (by simpa using hlt)]
      simp
    have hne2 : (hereI (tl s.src) s.p != -1) = true := by
      rw [hereI_at (l := tl s.src) (by simpa using hlt)]
      simp
    obtain ⟨c, hc⟩ : ∃ c, c = hereI (tl s.src) s.p := ⟨_, rfl⟩
    rw [← hc] at hH hg hne hne2 ⊢
    clear hc
    have hp2 : s.p ≤ 4194304 := by omega
    go_enter Try.func77, Try.ntmps77
    go_wp2_with fail
    refine (hH _ h).mono ?_
    rintro e w1 ⟨rfl, hb⟩
    have h1 := h.below hb h.lt
    have c1 := h1.c1
    have f1 := h1.free 1
    clear hH
    go_wp2_with fail
    go_ret
    exact ⟨rfl, h1.setP (s.p + 1), (But.of_below hb).setCell _ _⟩
  · rw [if_neg hlt]
    have hpe : hereI (tl s.src) s.p = -1 := hereI_end (by simp; omega)
    rw [hpe] at hH ⊢
    clear hpe hg
    go_enter Try.func77, Try.ntmps77
    go_wp2_with fail
    refine (hH _ h).mono ?_
    rintro e w1 ⟨rfl, hb⟩
    have h1 := h.below hb h.lt
    clear hH
    go_wp2_with fail
    go_ret
    exact ⟨rfl, h1, But.of_below hb⟩
set_option maxHeartbeats 1000000 in
theorem standsR_any (g : Nat) (s : PZ) (what : ByteArray) (w : World) (h : PB w g s) (hp : s.p ≤ s.src.size) (hs : s.src.size ≤ 4194304) :
    Calls Try.prog 65 #[.pointer (some ⟨g, 0, none⟩), .string what] w fun e w' => e = .returned (.bool (preB (s.src.extract s.p s.src.size) what)) ∧ Below w.heap.size w w' := by
  have c0 := h.c0
  have c1 := h.c1
  have HP := fun wx => prefix_any (s.src.extract s.p s.src.size) what (by simp; omega) wx
  obtain ⟨src, p, k, t, ss, M, W0, M0, A, B, C, why, at'⟩ := s
  simp only at *
  obtain ⟨b, hb⟩ : ∃ b, b = preB (src.extract p src.size) what := ⟨_, rfl⟩
  rw [← hb] at HP ⊢
  clear h hb
  go_enter Try.func65, Try.ntmps65
  go_wp2_with fail
  go_quiet ((go_at_call 79; exact Calls.quiet_of_same (HP _)))
  go_wp2_with fail
  go_ret
  exact ⟨rfl, below_drewN (Below.refl _ _) _⟩
end Go.Proofs.Ytonbfcpbgkpbaaa
