/- spans.Size: its contract. -/
import Derived.Test.YtaenmgikpkkflaaDoorSSizeMath
import Derived.Test.YtaenmgikpkkflaaDoorSRight
namespace Go.Proofs.YtaenmgikpkkflaaDoor
open Go.RowKit Go.Sort
/-- The count within a span: behind no, one, both parts of all runes. -/
def pS (T : Int) (x : Sp) : Nat → Int
  | 0 => T
  | 1 => T + wid (comL x lowR)
  | _ => T + wid (comL x lowR) + wid (comL x highR)
set_option maxHeartbeats 4000000 in
theorem size_any (a : Option Addr) (cap : Nat) (l : List Sp) (w : World) (hlen : l.length ≤ 9223372036854775807) (h : SPS w a l) (hR : Rgt l) (hG : GL w) :
    Calls Tryd.prog 10 #[.slice a l.length cap] w fun e w' => e = .returned (.int .i64 (sizeA l)) ∧ Below w.heap.size w w' := by
  obtain ⟨S, hS⟩ : ∃ S, S = sizeA l := ⟨_, rfl⟩
  have HS : Hid (S = sizeA l) := hS
  rw [← hS]
  clear hS
  obtain ⟨n, hn⟩ : ∃ n, n = l.length := ⟨_, rfl⟩
  have HN : Hid (n = l.length) := hn
  rw [← hn] at hlen ⊢
  clear hn
  have hp0 := part0
  have hp1 := part1
  go_enter Tryd.func10, Tryd.ntmps10
  go_wp2
  go_loopw [3, 11] (fun s i wr => ∃ k : Nat, k ≤ n ∧ s = .int .i64 (sizeT l k) ∧ i = .int .i64 k ∧ Below w.heap.size w wr) (fun _ i _ => n - (intOf i).toNat)
  case atStart => exact ⟨0, Nat.zero_le _, rfl, rfl, Below.refl _ _⟩
  case round =>
    obtain ⟨k, hk, rfl, rfl, hbr⟩ := hrel
    by_cases hlt : k < n
    · have hkl : k < l.length := by rw [← HN.out]; exact hlt
      rcases h with h | ⟨b, off, rfl, hc⟩
      · subst h; simp at hkl
      obtain ⟨x, hx⟩ : ∃ x, l[k]? = some x := ⟨l[k], List.getElem?_eq_getElem hkl⟩
      obtain ⟨c0, c1⟩ := (hc k x hx).below hbr
      obtain ⟨r1, r2, r3⟩ := hR.row hx
      have q0 := com_low r1 r2
      have q1 := com_high r1 r2
      have q2 := cnt_parts r1 r2 r3
      obtain ⟨z0, z1⟩ := sizeT_le hR k x hx
      have z2 := (sizeT_most hR hx).2
      have hsu : Hid (sizeT l (k + 1) = sizeT l k + cnt x) := sizeT_succ hx
      have z3 := hsu.out
      rw [z3, ← q2] at z2
      obtain ⟨T, hT⟩ : ∃ T, T = sizeT l k := ⟨_, rfl⟩
      rw [← hT] at hsu z0 z1 z2 ⊢
      clear z3
      have hG1 := hG.below hbr
      have hGr := hG1.below ((Below.refl _ wr).alloc (Nat.le_refl _) (.cells #[.int .i32 x.lo, .int .i32 x.hi] 26))
      have hBr : Below w.heap.size w (wr.alloc (.cells #[.int .i32 x.lo, .int .i32 x.hi] 26)) := hbr.alloc hbr.size _
      obtain ⟨-, -, g2, g3, g4, g5, -⟩ := hG1.cells
      have g2 := cell_alloc_s g2
      have g3 := cell_alloc_s g3
      have g4 := cell_alloc_s g4
      have g5 := cell_alloc_s g5
      have ho : SpAt (wr.alloc (.cells #[.int .i32 x.lo, .int .i32 x.hi] 26)) wr.heap.size 0 x := ⟨by simp [go_sem], by simp [go_sem]⟩
      have hs0 : wr.heap.size < (wr.alloc (.cells #[.int .i32 x.lo, .int .i32 x.hi] 26)).heap.size := by simp
      have hsW : w.heap.size ≤ wr.heap.size := hbr.size
      clear hc hx hT hG hG1 hbr
      go_wp2_with fail
      clear g2 g3 g4 g5 c0 c1
      obtain ⟨W0, hW0⟩ : ∃ W0, W0 = wr.alloc (.cells #[.int .i32 x.lo, .int .i32 x.hi] 26) := ⟨_, rfl⟩
      rw [← hW0] at hGr hBr ho hs0 ⊢
      clear hW0
      obtain ⟨B0, hB0⟩ : ∃ B0, B0 = wr.heap.size := ⟨_, rfl⟩
      rw [← hB0] at ho hs0 hsW ⊢
      clear hB0
      go_loopw [3, 16] (fun s i wi => ∃ q : Nat, q ≤ 2 ∧ s = .int .i64 (pS T x q) ∧ i = .int .i64 q ∧ Below w.heap.size w wi ∧ GL wi ∧ SpAt wi B0 0 x ∧ B0 < wi.heap.size) (fun _ i _ => 2 - (intOf i).toNat)
      case atStart => exact ⟨0, Nat.zero_le _, rfl, rfl, hBr, hGr, ho, hs0⟩
      case round =>
        clear hGr hBr ho hs0
        obtain ⟨q, hq, rfl, rfl, hbi, hGi, ⟨o0, o1⟩, hsi⟩ := hrel
        rcases (show q = 0 ∨ q = 1 ∨ q = 2 by omega) with rfl | rfl | rfl
        · rw [show pS T x 0 = T from rfl]
          have l2 : Below w.heap.size w (wr.alloc (.cells #[.int .i32 0, .int .i32 55295] 26)) := hbi.alloc hbi.size _
          have hG2 : GL (wr.alloc (.cells #[.int .i32 0, .int .i32 55295] 26)) := hGi.below ((Below.refl _ wr).alloc (Nat.le_refl _) _)
          have H2 : SpAt (wr.alloc (.cells #[.int .i32 0, .int .i32 55295] 26)) B0 0 x := SpAt.below ⟨o0, o1⟩ ((Below.refl _ wr).alloc (Nat.le_refl _) _)
          have s2 : B0 < (wr.alloc (.cells #[.int .i32 0, .int .i32 55295] 26)).heap.size := by simp; omega
          obtain ⟨o2, o3⟩ := H2
          rw [Nat.zero_add] at o3
          go_wp2_with fail
          refine (common_any x lowR _ hG2).mono ?_
          rintro e w1 ⟨rfl, hb1⟩
          have hz1 := hb1.size
          have hB1 := (l2.trans (hb1.mono l2.size)).alloc (Nat.le_trans l2.size hz1) (.cells #[.int .i32 (comL x lowR).lo, .int .i32 (comL x lowR).hi] 26)
          have hG1 := (hG2.below hb1).below ((Below.refl _ w1).alloc (Nat.le_refl _) (.cells #[.int .i32 (comL x lowR).lo, .int .i32 (comL x lowR).hi] 26))
          have H1 := (SpAt.below (off := 0) ⟨o2, o3⟩ hb1).below ((Below.refl _ w1).alloc (Nat.le_refl _) (.cells #[.int .i32 (comL x lowR).lo, .int .i32 (comL x lowR).hi] 26))
          have s1 : B0 < (w1.alloc (.cells #[.int .i32 (comL x lowR).lo, .int .i32 (comL x lowR).hi] 26)).heap.size := by simp at hz1; simp; omega
          have HV : Hid (wrap64 (T + wrap64 (wrap64 (wrap32 ((comL x lowR).hi - (comL x lowR).lo)) + 1)) = pS T x 1) := by
            show _ = T + wid (comL x lowR)
            unfold wid at *
            unfold wrap64 wrap32
            omega
          have HX' : Hid (0 ≤ wid (comL x lowR) ∧ 0 ≤ wid (comL x highR) ∧ wid (comL x lowR) + wid (comL x highR) = cnt x ∧ T + (wid (comL x lowR) + wid (comL x highR)) ≤ 1114112) := ⟨q0.2.2.2.2, q1.2.2.2.2, q2, z2⟩
          clear l2 hG2 o0 o1 o2 o3 s2 hp0 hp1 hz1 q0 q1 q2 z2
          unfold spv
          go_wp2_with fail
          exact ⟨⟨1, by omega, by rw [HV.out], rfl, hB1, hG1, H1, s1⟩, by simp [intOf]⟩
        · rw [show pS T x 1 = T + wid (comL x lowR) from rfl]
          have l2 : Below w.heap.size w (wr.alloc (.cells #[.int .i32 57344, .int .i32 1114111] 26)) := hbi.alloc hbi.size _
          have hG2 : GL (wr.alloc (.cells #[.int .i32 57344, .int .i32 1114111] 26)) := hGi.below ((Below.refl _ wr).alloc (Nat.le_refl _) _)
          have H2 : SpAt (wr.alloc (.cells #[.int .i32 57344, .int .i32 1114111] 26)) B0 0 x := SpAt.below ⟨o0, o1⟩ ((Below.refl _ wr).alloc (Nat.le_refl _) _)
          have s2 : B0 < (wr.alloc (.cells #[.int .i32 57344, .int .i32 1114111] 26)).heap.size := by simp; omega
          obtain ⟨o2, o3⟩ := H2
          rw [Nat.zero_add] at o3
          go_wp2_with fail
          refine (common_any x highR _ hG2).mono ?_
          rintro e w1 ⟨rfl, hb1⟩
          have hz1 := hb1.size
          have hB1 := (l2.trans (hb1.mono l2.size)).alloc (Nat.le_trans l2.size hz1) (.cells #[.int .i32 (comL x highR).lo, .int .i32 (comL x highR).hi] 26)
          have hG1 := (hG2.below hb1).below ((Below.refl _ w1).alloc (Nat.le_refl _) (.cells #[.int .i32 (comL x highR).lo, .int .i32 (comL x highR).hi] 26))
          have H1 := (SpAt.below (off := 0) ⟨o2, o3⟩ hb1).below ((Below.refl _ w1).alloc (Nat.le_refl _) (.cells #[.int .i32 (comL x highR).lo, .int .i32 (comL x highR).hi] 26))
          have s1 : B0 < (w1.alloc (.cells #[.int .i32 (comL x highR).lo, .int .i32 (comL x highR).hi] 26)).heap.size := by simp at hz1; simp; omega
          have HV : Hid (wrap64 (T + wid (comL x lowR) + wrap64 (wrap64 (wrap32 ((comL x highR).hi - (comL x highR).lo)) + 1)) = pS T x 2) := by
            show _ = T + wid (comL x lowR) + wid (comL x highR)
            unfold wid at *
            unfold wrap64 wrap32
            omega
          have HX' : Hid (0 ≤ wid (comL x lowR) ∧ 0 ≤ wid (comL x highR) ∧ wid (comL x lowR) + wid (comL x highR) = cnt x ∧ T + (wid (comL x lowR) + wid (comL x highR)) ≤ 1114112) := ⟨q0.2.2.2.2, q1.2.2.2.2, q2, z2⟩
          clear l2 hG2 o0 o1 o2 o3 s2 hp0 hp1 hz1 q0 q1 q2 z2
          unfold spv
          go_wp2_with fail
          exact ⟨⟨2, by omega, by rw [HV.out], rfl, hB1, hG1, H1, s1⟩, by simp [intOf]⟩
        · have HV : Hid (pS T x 2 = sizeT l (k + 1)) := by
            show T + wid (comL x lowR) + wid (comL x highR) = _
            rw [hsu.out, ← q2]
            omega
          clear o0 o1 hp0 hp1 hGi q0 q1 q2 z2
          go_wp2_with fail
          go_roundw
          case rel => exact ⟨k + 1, by omega, by rw [HV.out], by go_num, hbi⟩
          case measure => simp only [intOf]; omega
    · have hkn : k = n := by omega
      subst hkn
      have hE : Hid (S = sizeT l k) := by show S = _; rw [HS.out, sizeA, HN.out]
      go_wp2_with fail
      go_ret
      exact ⟨by rw [hE.out]; rfl, hbr⟩
end Go.Proofs.YtaenmgikpkkflaaDoor
