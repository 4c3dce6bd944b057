/- tesseralaw8: known, HeapNumbers. -/
import Derived.Test.YtmfbeelnhihlaaaHIOf
namespace Go.Proofs.Ytmfbeelnhihlaaa.HI
open Go.RowKit Go.Joins Go.Sort
set_option linter.unusedVariables false
set_option linter.unusedSimpArgs false
set_option maxRecDepth 100000
theorem o1 : ofF keyE ([3, 1, 2] : List El) = [1, 3, 2] := by rfl
theorem p1 : popF keyE ([1, 3, 2] : List El) = [2, 3] := by rfl
theorem p2 : popF keyE ([2, 3] : List El) = [3] := by rfl
theorem p3 : popF keyE ([3] : List El) = [] := by rfl
theorem p5 : popF keyE ([] : List El) = [] := by rfl
theorem u1 : pushF keyE ([] : List El) 7 = [7] := by rfl
theorem p4 : popF keyE ([7] : List El) = [] := by rfl
set_option maxHeartbeats 1000000 in
theorem known_any (w : World) : Calls Try.prog 12 #[] w fun e w' => e = .returned (.bool true) ∧ Below w.heap.size w w' := by
  have b0 : Below w.heap.size w (w.alloc (.cells #[.int .i64 3, .int .i64 1, .int .i64 2] 3)) := (Below.refl _ w).alloc (Nat.le_refl _) _
  have HO := of_any (some ⟨w.heap.size, 0, none⟩) 3 [3, 1, 2] (w.alloc (.cells #[.int .i64 3, .int .i64 1, .int .i64 2] 3)) (by simp) (.inr ⟨w.heap.size, 0, rfl, fun i x hx => by
    match i, hx with
    | 0, hx => cases hx; simp [go_sem]
    | 1, hx => cases hx; simp [go_sem]
    | 2, hx => cases hx; simp [go_sem]
    | i + 3, hx => simp at hx⟩)
  rw [o1] at HO
  unfold lessV at HO
  go_enter Try.func12, Try.ntmps12
  go_wp2_with fail
  refine HO.mono ?_
  rintro e w1 ⟨g, v, rfl, hA, hb⟩
  have B1 := b0.trans (hb.mono b0.size)
  clear HO b0 hb
  have HL := len_any _ g v _ w1 hA
  go_wp2_with fail
  refine HL.mono ?_
  rintro e w2 ⟨rfl, hw2⟩
  rw [hw2]
  clear hw2 w2 HL
  have HP := pop_any _ g v _ w1 hA (by simp)
  rw [show headR ([1, 3, 2] : List El) = .tuple #[.int .i64 1, .bool true] from rfl, p1] at HP
  go_wp2_with fail
  refine HP.mono ?_
  rintro e w2 ⟨v2, rfl, hA2, ht⟩
  have B2 := B1.trans ((ht.below hA).mono (by simp))
  clear HP ht hA
  have HP := pop_any _ g v2 _ w2 hA2 (by simp)
  rw [show headR ([2, 3] : List El) = .tuple #[.int .i64 2, .bool true] from rfl, p2] at HP
  go_wp2_with fail
  refine HP.mono ?_
  rintro e w3 ⟨v3, rfl, hA3, ht⟩
  have B3 := B2.trans ((ht.below hA2).mono (by simp))
  clear HP ht hA2
  have HP := pop_any _ g v3 _ w3 hA3 (by simp)
  rw [show headR ([3] : List El) = .tuple #[.int .i64 3, .bool true] from rfl, p3] at HP
  go_wp2_with fail
  refine HP.mono ?_
  rintro e w4 ⟨v4, rfl, hA4, ht⟩
  have B4 := B3.trans ((ht.below hA3).mono (by simp))
  clear HP ht hA3
  have HP := pop_any _ g v4 _ w4 hA4 (by simp)
  rw [show headR ([] : List El) = .tuple #[.int .i64 0, .bool false] from rfl, p5] at HP
  go_wp2_with fail
  refine HP.mono ?_
  rintro e w5 ⟨v5, rfl, hA5, ht⟩
  have B5 := B4.trans ((ht.below hA4).mono (by simp))
  clear HP ht hA4
  go_wp2_with fail
  go_ret
  exact ⟨rfl, B5⟩
set_option maxHeartbeats 1000000 in
theorem numbers_any (w : World) : Calls Try.prog 3 #[] w fun e w' => e = .returned (.bool true) ∧ Below w.heap.size w w' := by
  have HN := new_any w
  unfold lessV at HN
  go_enter Try.func3, Try.ntmps3
  go_wp2_with fail
  refine HN.mono ?_
  rintro e w1 ⟨g, v, rfl, hA, B1⟩
  clear HN
  have HL := least_any _ g v _ w1 hA
  rw [show headR ([] : List El) = .tuple #[.int .i64 0, .bool false] from rfl] at HL
  go_wp2_with fail
  refine HL.mono ?_
  rintro e w2 ⟨rfl, hb⟩
  have hA2 := hA.below hb
  have B2 := B1.trans (hb.mono B1.size)
  clear HL hA hb
  have HP := push_any _ g v _ 7 w2 hA2 (by simp)
  rw [u1] at HP
  unfold valE at HP
  go_wp2_with fail
  refine HP.mono ?_
  rintro e w3 ⟨v3, rfl, hA3, ht⟩
  have B3 := B2.trans (ht.below hA2)
  clear HP ht hA2
  have HL := least_any _ g v3 _ w3 hA3
  rw [show headR ([7] : List El) = .tuple #[.int .i64 7, .bool true] from rfl] at HL
  go_wp2_with fail
  refine HL.mono ?_
  rintro e w4 ⟨rfl, hb⟩
  have hA4 := hA3.below hb
  have B4 := B3.trans (hb.mono B3.size)
  clear HL hA3 hb
  have HP := pop_any _ g v3 _ w4 hA4 (by simp)
  rw [show headR ([7] : List El) = .tuple #[.int .i64 7, .bool true] from rfl, p4] at HP
  go_wp2_with fail
  refine HP.mono ?_
  rintro e w5 ⟨v5, rfl, hA5, ht⟩
  have B5 := B4.trans (ht.below hA4)
  clear HP ht hA4
  have HL := len_any _ g v5 _ w5 hA5
  rw [List.length_nil] at HL
  go_wp2_with fail
  refine HL.mono ?_
  rintro e w6 ⟨rfl, hw6⟩
  rw [hw6]
  clear HL hw6 w6
  go_wp2_with fail
  refine (known_any w5).mono ?_
  rintro e w7 ⟨rfl, hb7⟩
  go_wp2_with fail
  go_ret
  exact ⟨rfl, B5.trans (hb7.mono B5.size)⟩
end Go.Proofs.Ytmfbeelnhihlaaa.HI
