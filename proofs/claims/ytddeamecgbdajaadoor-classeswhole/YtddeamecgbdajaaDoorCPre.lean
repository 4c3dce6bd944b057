/- A real U+FFFD is told from a bad byte: strings.HasPrefix at its mark. -/
import Derived.Test.YtddeamecgbdajaaDoorUHead
namespace Go.Proofs.YtddeamecgbdajaaDoor
open Go.RowKit Go.Lib
def markL : List UInt8 := [239, 191, 189]
theorem enc_mark : tl (Utf8.encode ((65533 : Nat) : Int)) = markL := by
  rw [encode_nums 65533 (by omega)]
  decide
set_option maxRecDepth 100000 in
theorem bad_of (k : Nat) (l : List UInt8) (hr : (headIt k l).rune = 65533) : decide (l.take 3 = markL) = !(headIt k l).bad := by
  have hf := headIt_facts k l
  cases hb : (headIt k l).bad with
  | false =>
    obtain ⟨-, he⟩ := hf.2.2.2 hb
    rw [hr, enc_mark, hf.2.1] at he
    have hw := front_le l
    have hfr : (front l).2 = true := by
      unfold headIt at hb
      split at hb
      · assumption
      · cases hb
    have hl := congrArg List.length he
    rw [List.length_take] at hl
    unfold wid at hl he
    rw [if_pos hfr] at hl he
    have h3 : (front l).1 = 3 := by
      have : markL.length = 3 := rfl
      omega
    rw [h3] at he
    simp [← he]
  | true =>
    have hfr : (front l).2 = false := by
      unfold headIt at hb
      split at hb
      · cases hb
      · rename_i h
        simpa using h
    refine decide_eq_false fun h => ?_
    have h3 : 3 ≤ l.length := by
      have := congrArg List.length h
      rw [List.length_take] at this
      have : markL.length = 3 := rfl
      omega
    obtain ⟨a, b, c, t, rfl⟩ : ∃ a b c t, l = a :: b :: c :: t := by
      match l, h3 with
      | a :: b :: c :: t, _ => exact ⟨a, b, c, t, rfl⟩
    simp [markL] at h
    obtain ⟨rfl, rfl, rfl⟩ := h
    have e : front (239 :: 191 :: 189 :: t) = (3, true) := by
      refine front_is ?_
      have b0 : bt (239 :: 191 :: 189 :: t) 0 = 239 := rfl
      have b1 : bt (239 :: 191 :: 189 :: t) 1 = 191 := rfl
      have b2 : bt (239 :: 191 :: 189 :: t) 2 = 189 := rfl
      rw [b0, b1, b2]
      unfold FS
      simp
    rw [e] at hfr
    cases hfr
set_option maxRecDepth 100000 in
theorem lite_any (t : ByteArray) (w : World) (hs : t.size ≤ 9223372036854775807) : Calls Tryd.prog 51 #[.string t, .string { data := #[239, 191, 189] }] w fun e w' => e = .returned (.bool (decide ((tl t).take 3 = markL))) ∧ w' = w := by
  by_cases h3 : 3 ≤ t.size
  · have hq : ((t.extract 0 3).toList == [239, 191, 189]) = decide ((tl t).take 3 = markL) := by
      rw [show ([239, 191, 189] : List UInt8) = (⟨#[239, 191, 189]⟩ : ByteArray).toList from by rw [ByteArray.toList_eq], str_eq, tl_first]; rfl
    have hd : decide ((3 : Int) ≤ (t.size : Int)) = true := decide_eq_true (by omega)
    generalize decide ((tl t).take 3 = markL) = B at *
    go_enter Tryd.func51, Tryd.ntmps51
    go_wp2_with fail
    go_ret
    exact ⟨rfl, rfl⟩
  · have hq : decide ((tl t).take 3 = markL) = false := decide_eq_false fun h => by
      have := congrArg List.length h
      rw [List.length_take, tl_len] at this
      have : markL.length = 3 := rfl
      omega
    have hd : decide ((3 : Int) ≤ (t.size : Int)) = false := decide_eq_false (by omega)
    rw [hq]
    go_enter Tryd.func51, Tryd.ntmps51
    go_wp2_with fail
    go_ret
    exact ⟨rfl, rfl⟩
set_option maxRecDepth 100000 in
theorem mark_any (t : ByteArray) (w : World) (hs : t.size ≤ 9223372036854775807) : Calls Tryd.prog 42 #[.string t, .string { data := #[239, 191, 189] }] w fun e w' => e = .returned (.bool (decide ((tl t).take 3 = markL))) ∧ w' = w := by
  have H := lite_any t w hs
  generalize decide ((tl t).take 3 = markL) = B at *
  go_enter Tryd.func42, Tryd.ntmps42
  go_wp2_with fail
  refine H.mono ?_
  rintro e w1 ⟨rfl, he⟩
  obtain rfl := he.symm
  go_wp2_with fail
  go_ret
  exact ⟨rfl, rfl⟩
end Go.Proofs.YtddeamecgbdajaaDoor
