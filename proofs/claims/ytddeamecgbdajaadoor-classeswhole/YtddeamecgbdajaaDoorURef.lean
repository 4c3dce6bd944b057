/- The document's own answer, its small functions: their contracts. -/
import Derived.Test.YtddeamecgbdajaaDoorURefMath
import Derived.Test.YtddeamecgbdajaaDoorUText
namespace Go.Proofs.YtddeamecgbdajaaDoor
open Go.RowKit
theorem need_any (c : Nat) (w : World) : Calls Tryd.prog 56 #[.int .u8 (c : Nat)] w fun e w' => e = .returned (.int .i64 (needN c : Nat)) ∧ w' = w := by
  have h0 : c < 194 ∨ (194 ≤ c ∧ c ≤ 223) ∨ (224 ≤ c ∧ c ≤ 239) ∨ (240 ≤ c ∧ c ≤ 244) ∨ 244 < c := by omega
  unfold needN
  rcases h0 with h | ⟨h, h'⟩ | ⟨h, h'⟩ | ⟨h, h'⟩ | h
  · rw [if_neg (by omega), if_neg (by omega), if_neg (by omega)]
    go_enter Tryd.func56, Tryd.ntmps56
    go_wp2
    go_ret
    exact ⟨rfl, rfl⟩
  · rw [if_pos (by omega)]
    go_enter Tryd.func56, Tryd.ntmps56
    go_wp2
    go_ret
    exact ⟨rfl, rfl⟩
  · rw [if_neg (by omega), if_pos (by omega)]
    go_enter Tryd.func56, Tryd.ntmps56
    go_wp2
    go_ret
    exact ⟨rfl, rfl⟩
  · rw [if_neg (by omega), if_neg (by omega), if_pos (by omega)]
    go_enter Tryd.func56, Tryd.ntmps56
    go_wp2
    go_ret
    exact ⟨rfl, rfl⟩
  · rw [if_neg (by omega), if_neg (by omega), if_neg (by omega)]
    go_enter Tryd.func56, Tryd.ntmps56
    go_wp2
    go_ret
    exact ⟨rfl, rfl⟩
theorem ret_bool {a b : Bool} (h : a = b) : Ending.returned (.bool a) = .returned (.bool b) := by rw [h]
theorem ret_int {k : IntKind} {a b : Int} (h : a = b) : Ending.returned (.int k a) = .returned (.int k b) := by rw [h]
theorem second_any (c d : Nat) (w : World) : Calls Tryd.prog 58 #[.int .u8 (c : Nat), .int .u8 (d : Nat)] w fun e w' => e = .returned (.bool (secondB c d)) ∧ w' = w := by
  unfold secondB
  by_cases e0 : c = 224
  · subst e0
    go_enter Tryd.func58, Tryd.ntmps58
    go_wp2
    all_goals
      go_ret
      rename_i h
      exact ⟨ret_bool (by rw [Bool.eq_iff_iff]; simp; omega), rfl⟩
  by_cases e1 : c = 237
  · subst e1
    go_enter Tryd.func58, Tryd.ntmps58
    go_wp2
    all_goals
      go_ret
      rename_i h
      exact ⟨ret_bool (by rw [Bool.eq_iff_iff]; simp; omega), rfl⟩
  by_cases e2 : c = 240
  · subst e2
    go_enter Tryd.func58, Tryd.ntmps58
    go_wp2
    all_goals
      go_ret
      rename_i h
      exact ⟨ret_bool (by rw [Bool.eq_iff_iff]; simp; omega), rfl⟩
  by_cases e3 : c = 244
  · subst e3
    go_enter Tryd.func58, Tryd.ntmps58
    go_wp2
    all_goals
      go_ret
      rename_i h
      exact ⟨ret_bool (by rw [Bool.eq_iff_iff]; simp; omega), rfl⟩
  rw [if_neg e2, if_neg e0, if_neg e3, if_neg e1]
  have e0' : ((c : Int) == 224) = false := by simp; omega
  have e1' : ((c : Int) == 237) = false := by simp; omega
  have e2' : ((c : Int) == 240) = false := by simp; omega
  have e3' : ((c : Int) == 244) = false := by simp; omega
  clear e0 e1 e2 e3
  go_enter Tryd.func58, Tryd.ntmps58
  go_wp2
  all_goals
    go_ret
    rename_i h
    exact ⟨ret_bool (by rw [Bool.eq_iff_iff]; simp; omega), rfl⟩
theorem tl_bt (s : ByteArray) (i : Nat) (h : i < s.size) : (s[i]).toNat = bt (tl s) i := by
  unfold bt
  rw [List.getD_eq_getElem?_getD, List.getElem?_eq_getElem (by simpa using h)]
  rfl
theorem fits_any (s : ByteArray) (at_ most : Nat) (hm : 1 ≤ most) (hm4 : most ≤ 4) (ha : at_ < s.size) (hs : s.size ≤ 9223372036854775803) (w : World) :
    Calls Tryd.prog 57 #[.string s, .int .i64 (at_ : Nat), .int .i64 (most : Nat)] w fun e w' => e = .returned (.int .i64 (fitsN ((tl s).drop at_) most : Nat)) ∧ w' = w := by
  go_enter Tryd.func57, Tryd.ntmps57
  go_wp2
  go_loop [7] (fun i => ∃ k : Nat, 1 ≤ k ∧ k ≤ 4 ∧ i = .int .i64 k ∧ fitsN ((tl s).drop at_) most = fitF ((tl s).drop at_) most (4 - k) k) (fun i => 4 - (intOf i).toNat)
  case atStart => exact ⟨1, by omega, by omega, rfl, rfl⟩
  case round =>
    obtain ⟨k, hk1, hk4, rfl, ht⟩ := hrel
    have hl : ((tl s).drop at_).length = s.size - at_ := by simp
    by_cases c1 : k < most
    · obtain ⟨f, hf⟩ : ∃ f, 4 - k = f + 1 := ⟨3 - k, by omega⟩
      rw [hf] at ht
      unfold fitF at ht
      rw [hl] at ht
      by_cases c2 : at_ + k < s.size
      · have hb0 := tl_bt s at_ ha
        have hbk := tl_bt s (at_ + k) c2
        have hg : goesOn ((tl s).drop at_) k = if k = 1 then secondB (s[at_]).toNat (s[at_ + k]).toNat else decide (128 ≤ (s[at_ + k]).toNat) && decide ((s[at_ + k]).toNat ≤ 191) := by
          unfold goesOn
          rw [hb0, hbk, bt_drop, bt_drop, bt_drop, Nat.add_zero]
          by_cases e : k = 1
          · subst e; rfl
          · rw [if_neg e, if_neg e]
        clear hb0 hbk hl
        by_cases e : k = 1
        · subst e
          rw [if_pos rfl] at hg
          have H2 := second_any (s[at_]).toNat (s[at_ + 1]).toNat
          cases hB : secondB (s[at_]).toNat (s[at_ + 1]).toNat with
          | true =>
            rw [hB] at H2 hg
            rw [if_pos ⟨c1, by omega, hg⟩] at ht
            have HT : Hid (fitsN ((tl s).drop at_) most = fitF ((tl s).drop at_) most (4 - (1 + 1)) (1 + 1)) := by rw [ht, show 4 - (1 + 1) = f by omega]; exact rfl
            clear ht hf hg hB
            go_wp2_with (go_at_call 58; refine (H2 _).mono ?_; rintro e w1 ⟨rfl, rfl⟩)
            go_round
            case rel => exact ⟨1 + 1, by omega, by omega, by go_num, HT.out⟩
            case measure => simp [intOf]
          | false =>
            rw [hB] at H2 hg
            rw [if_neg (by rw [hg]; simp)] at ht
            have HT : Hid (fitsN ((tl s).drop at_) most = 1) := ht
            clear ht hf hg hB
            go_wp2_with (go_at_call 58; refine (H2 _).mono ?_; rintro e w1 ⟨rfl, rfl⟩)
            go_ret
            exact ⟨(by rw [HT.out]; rfl), rfl⟩
        · rw [if_neg e] at hg
          have e' : ((k : Int) == 1) = false := by simp; omega
          have e1 : 1 < k := by omega
          clear e
          by_cases d1 : 128 ≤ (s[at_ + k]).toNat
          · by_cases d2 : (s[at_ + k]).toNat ≤ 191
            · rw [if_pos ⟨c1, by omega, by rw [hg]; simp; omega⟩] at ht
              have HT : Hid (fitsN ((tl s).drop at_) most = fitF ((tl s).drop at_) most (4 - (k + 1)) (k + 1)) := by rw [ht, show 4 - (k + 1) = f by omega]; exact rfl
              clear ht hf hg
              go_wp2_with fail
              go_round
              case rel => exact ⟨k + 1, by omega, by omega, by go_num, HT.out⟩
              case measure => simp [intOf]; omega
            · rw [if_neg (by rw [hg]; simp; omega)] at ht
              have HT : Hid (fitsN ((tl s).drop at_) most = k) := ht
              clear ht hf hg
              go_wp2_with fail
              go_ret
              exact ⟨(by rw [HT.out]; rfl), rfl⟩
          · rw [if_neg (by rw [hg]; simp; omega)] at ht
            have HT : Hid (fitsN ((tl s).drop at_) most = k) := ht
            clear ht hf hg
            go_wp2_with fail
            go_ret
            exact ⟨(by rw [HT.out]; rfl), rfl⟩
      · rw [if_neg (by omega)] at ht
        have HT : Hid (fitsN ((tl s).drop at_) most = k) := ht
        clear ht hf hl
        go_wp2_with fail
        go_ret
        exact ⟨(by rw [HT.out]; rfl), rfl⟩
    · have HT : Hid (fitsN ((tl s).drop at_) most = k) := by
        rw [ht]
        cases 4 - k with
        | zero => exact rfl
        | succ f =>
          unfold fitF
          rw [if_neg (by omega)]
          exact rfl
      clear ht hl
      go_wp2_with fail
      go_ret
      exact ⟨(by rw [HT.out]; rfl), rfl⟩
end Go.Proofs.YtddeamecgbdajaaDoor
