/- recipe's scanner.word: its contract. -/
import Derived.Test.YtonbfcpbgkpbaaaQWordA
import Derived.Test.YtonbfcpbgkpbaaaQWordB
import Derived.Test.YtonbfcpbgkpbaaaQWordC
namespace Go.Proofs.Ytonbfcpbgkpbaaa
open Go.RowKit Go.Sort Go.Joins
set_option linter.unusedVariables false
set_option linter.unusedSimpArgs false
set_option maxRecDepth 100000
theorem word_step (w : World) (g : Nat) (s : PZ) (R : Nat × Nat × List UInt8) (hs : s.src.size ≤ 4194304) (n lb : Nat) (a : Act) (wr : World) (hJ : JWo w g s R n lb a wr) :
    ∃ rest, findLabel (scopeQ Try.f62) lb = some (.seq .skip rest) ∧ rest.wp Try.prog (viaL (fun l' a' w' => ∃ m, m < n ∧ JWo w g s R m l' a' w') (WoQ w g s R)) a wr := by
  obtain ⟨k, h, acc, v, c0, hF, hW, hc⟩ := hJ
  rcases hc with ⟨rfl, rfl, hR⟩ | ⟨hlb, rfl, m, hm, hR⟩
  · exact ⟨_, rfl, word_wrong w g s R hs _ k h acc v c0 a wr hF hW hR⟩
  rcases hlb with rfl | rfl | ⟨rfl, hlow⟩
  · exact ⟨_, rfl, word_l0 w g s R hs k h acc v c0 a wr m hF hW hm hR⟩
  · exact ⟨_, rfl, word_l1 w g s R hs k h acc v c0 a wr m hF hW hm hR⟩
  · exact ⟨_, rfl, word_l3 w g s R hs k h acc v c0 a wr m hlow hF hW hm hR⟩
set_option maxHeartbeats 4000000 in
theorem word_any (g : Nat) (s : PZ) (w : World) (h : PB w g s) (hs : s.src.size ≤ 4194304) (h34 : ∃ c, (tl s.src)[s.p]? = some c ∧ c.toNat = 34) :
    Calls Try.prog 62 #[.pointer (some ⟨g, 0, none⟩)] w (WordPost w g s (wordW 0 0 ((tl s.src).drop (s.p + 1)))) := by
  obtain ⟨c, hc, -⟩ := h34
  have hl : s.p < (tl s.src).length := by
    rcases Nat.lt_or_ge s.p (tl s.src).length with hh | hh
    · exact hh
    · rw [List.getElem?_eq_none hh] at hc; cases hc
  have htl := tl_len s.src
  have bx := box_below w (.cells #[.int .i64 0, .int .i64 0, .string ⟨#[]⟩] 76)
  have hX : (w.alloc (.cells #[.int .i64 0, .int .i64 0, .string ⟨#[]⟩] 76)).heap[w.heap.size]? = some (.cells #[.int .i64 0, .int .i64 0, .string ⟨#[]⟩] 76 (0, 0)) := heap_alloc_new w _
  have hP := h.below bx h.lt
  have hlt := h.lt
  have c1 := hP.c1
  obtain ⟨W, hW⟩ : ∃ W, W = w.alloc (.cells #[.int .i64 0, .int .i64 0, .string ⟨#[]⟩] 76) := ⟨_, rfl⟩
  have hsW : W.heap.size = w.heap.size + 1 := by rw [hW]; simp
  rw [← hW] at bx hX hP c1
  have hR0 := read_any g s W hP (by omega) hs
  rw [nextP_in hl, hereI_at hl] at hR0
  have HX := Lib.hid hX
  have HBX := Lib.hid bx
  have HSW := Lib.hid hsW
  have HW := Lib.hid hW
  have hcb := UInt8.toNat_lt ((tl s.src)[s.p])
  generalize (tl s.src)[s.p] = cc at *
  clear h hX bx hP hsW hc hW
  go_enter Try.func62, Try.ntmps62
  change Code.wp Try.prog _ (WoQ w g s (wordW 0 0 ((tl s.src).drop (s.p + 1)))) _ _
  go_wp2_with fail
  apply on_enter
  change Code.wp Try.prog _ (viaL (On Try.prog (scopeQ Try.f62) _) _) _ _
  rw [← HW.out]
  go_wp2_with fail
  refine hR0.mono ?_
  rintro e w1 ⟨rfl, h1, hb⟩
  clear hR0
  go_wp2_with fail
  refine wp_label (show Exit.then _ _ .normal _ _ from ?_)
  rename_i KK aK
  refine aK _ _ ?_
  have hJ : ∀ a, FWo g w.heap.size s.p 0 (.slice none 0 0) (cc.toNat : Int) a → JWo w g s (wordW 0 0 ((tl s.src).drop (s.p + 1))) (s.src.size - (s.p + 1) + 1) 1 a w1 := fun a hF => ⟨s.p + 1, 0, [], .slice none 0 0, (cc.toNat : Int), hF, ⟨by omega, h1, (But.of_below HBX.out).trans (hb.mono (by have := HSW.out; omega)), (hb.2.2.2.2 _ (by have := HSW.out; omega) (by omega)).trans HX.out, Oc.OwnS.nil _ _, Nat.zero_le _, hlt⟩, .inr ⟨.inr (.inl rfl), rfl, 0, rfl, by simp [stOf]⟩⟩
  have key : ∀ a, FWo g w.heap.size s.p 0 (.slice none 0 0) (cc.toNat : Int) a → (restQ (scopeQ Try.f62) 1).wp Try.prog (viaL (On Try.prog (scopeQ Try.f62) (WoQ w g s (wordW 0 0 ((tl s.src).drop (s.p + 1))))) (WoQ w g s (wordW 0 0 ((tl s.src).drop (s.p + 1))))) a w1 := fun a hF => by
    obtain ⟨rest, hf, hr⟩ := word_step w g s _ hs _ _ _ _ (hJ a hF)
    have hc : rest = restQ (scopeQ Try.f62) 1 := by
      have : findLabel (scopeQ Try.f62) 1 = some (.seq .skip (restQ (scopeQ Try.f62) 1)) := rfl
      rw [this] at hf
      injection hf with hf
      injection hf with _ hf
      exact hf.symm
    subst hc
    exact Code.wp_mono (viaL_mono fun l' a' w' ⟨m, _, hm⟩ => on_all (JWo w g s _) (word_step w g s _ hs) m l' a' w' hm) hr
  exact key _ ⟨_, _, _, _, _, _, _, _, _, _, _, _, _, _, _, _, _, _, _, _, _, _, _, _, _, _, _, _, _, _, _, _, _, _, _, _, _, _, _, _, _, _, _, _, _, _, _, _, _, _, _, _, _, _, _, _, _, _, _, _, _, _, _, _, _, _, _, _, _, rfl⟩
end Go.Proofs.Ytonbfcpbgkpbaaa
