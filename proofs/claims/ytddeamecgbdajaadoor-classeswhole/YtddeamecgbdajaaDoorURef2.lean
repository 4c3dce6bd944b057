/- The document's own answer: Width, Begins, read: their contracts. -/
import Derived.Test.YtddeamecgbdajaaDoorURef
namespace Go.Proofs.YtddeamecgbdajaaDoor
open Go.RowKit
theorem needN_cases (b : Nat) : needN b = 0 ∨ (2 ≤ needN b ∧ needN b ≤ 4) := by
  unfold needN
  repeat' split
  all_goals omega
set_option maxRecDepth 100000 in
theorem width_any (s : ByteArray) (at_ : Nat) (ha : at_ < s.size) (hs : s.size ≤ 9223372036854775803) (w : World) :
    Calls Tryd.prog 53 #[.string s, .int .i64 (at_ : Nat)] w fun e w' => e = .returned (.int .i64 (widthL ((tl s).drop at_) : Nat)) ∧ w' = w := by
  have hb := tl_bt s at_ ha
  have hb0 : bt ((tl s).drop at_) 0 = (s[at_]).toNat := by rw [bt_drop, Nat.add_zero, hb]
  unfold widthL
  rw [hb0]
  clear hb hb0
  by_cases c1 : (s[at_]).toNat < 128
  · rw [if_pos c1]
    go_enter Tryd.func53, Tryd.ntmps53
    go_wp2_with fail
    go_ret
    exact ⟨rfl, rfl⟩
  · rw [if_neg c1]
    have HN := need_any (s[at_]).toNat
    have hn := needN_cases (s[at_]).toNat
    generalize needN (s[at_]).toNat = n at *
    have HF := fun h1 h4 => fits_any s at_ n h1 h4 ha hs
    rcases hn with rfl | ⟨h2, h4⟩
    · rw [if_pos (.inl rfl)]
      clear HF
      go_enter Tryd.func53, Tryd.ntmps53
      go_wp2_with (go_at_call 56; refine (HN _).mono ?_; rintro e w1 ⟨rfl, rfl⟩)
      go_ret
      exact ⟨rfl, rfl⟩
    · have HF := HF (by omega) h4
      have hz : ((n : Int) == 0) = false := by simp; omega
      generalize fitsN ((tl s).drop at_) n = k at *
      by_cases c2 : k < n
      · rw [if_pos (.inr c2)]
        go_enter Tryd.func53, Tryd.ntmps53
        go_wp2_with (first
          | (go_at_call 56; refine (HN _).mono ?_; rintro e w1 ⟨rfl, rfl⟩)
          | (go_at_call 57; refine (HF _).mono ?_; rintro e w1 ⟨rfl, rfl⟩))
        go_ret
        exact ⟨rfl, rfl⟩
      · rw [if_neg (by omega)]
        go_enter Tryd.func53, Tryd.ntmps53
        go_wp2_with (first
          | (go_at_call 56; refine (HN _).mono ?_; rintro e w1 ⟨rfl, rfl⟩)
          | (go_at_call 57; refine (HF _).mono ?_; rintro e w1 ⟨rfl, rfl⟩))
        go_ret
        exact ⟨rfl, rfl⟩
set_option maxRecDepth 100000 in
theorem begins_any (s : ByteArray) (at_ : Nat) (ha : at_ < s.size) (hs : s.size ≤ 9223372036854775803) (w : World) :
    Calls Tryd.prog 55 #[.string s, .int .i64 (at_ : Nat)] w fun e w' => e = .returned (.int .i64 (beginsL ((tl s).drop at_) : Nat)) ∧ w' = w := by
  have hb := tl_bt s at_ ha
  have hb0 : bt ((tl s).drop at_) 0 = (s[at_]).toNat := by rw [bt_drop, Nat.add_zero, hb]
  unfold beginsL
  rw [hb0]
  clear hb hb0
  have HN := need_any (s[at_]).toNat
  have hn := needN_cases (s[at_]).toNat
  generalize needN (s[at_]).toNat = n at *
  rcases hn with rfl | ⟨h2, h4⟩
  · rw [if_pos rfl]
    go_enter Tryd.func55, Tryd.ntmps55
    go_wp2_with (go_at_call 56; refine (HN _).mono ?_; rintro e w1 ⟨rfl, rfl⟩)
    go_ret
    exact ⟨rfl, rfl⟩
  · rw [if_neg (by omega)]
    obtain ⟨m, rfl⟩ : ∃ m, n = m + 1 := ⟨n - 1, by omega⟩
    have HF := fits_any s at_ m (by omega) (by omega) ha hs
    rw [Nat.add_sub_cancel]
    have hz : (((m + 1 : Nat) : Int) == 0) = false := by simp; omega
    generalize fitsN ((tl s).drop at_) m = k at *
    go_enter Tryd.func55, Tryd.ntmps55
    go_wp2_with (first
      | (go_at_call 56; refine (HN _).mono ?_; rintro e w1 ⟨rfl, rfl⟩)
      | (go_at_call 57; refine (HF _).mono ?_; rintro e w1 ⟨rfl, rfl⟩))
    go_ret
    exact ⟨rfl, rfl⟩
/-- What is read of so many bytes. -/
def rdN (l : List UInt8) (n : Nat) : Nat → Nat
  | 0 => 0
  | k + 1 => if k = 0 then bt l 0 % 2 ^ (7 - n) else rdN l n k * 64 + bt l k % 64
theorem rdN_one (l : List UInt8) (n : Nat) : rdN l n 1 = bt l 0 % 2 ^ (7 - n) := rfl
theorem rdN_next (l : List UInt8) (n k : Nat) (h : 1 ≤ k) : rdN l n (k + 1) = rdN l n k * 64 + bt l k % 64 := by
  show (if k = 0 then _ else _) = _
  rw [if_neg (by omega)]
theorem rdN_lt (l : List UInt8) (n : Nat) (hn : 2 ≤ n) : ∀ k, rdN l n (k + 1) < 32 * 64 ^ k
  | 0 => by
    rw [rdN_one]
    have h : 2 ^ (7 - n) ≤ 2 ^ 5 := Nat.pow_le_pow_right (by omega) (by omega)
    have h2 : 0 < 2 ^ (7 - n) := Nat.pow_pos (by omega)
    have := Nat.mod_lt (bt l 0) h2
    omega
  | k + 1 => by
    have ih := rdN_lt l n hn k
    rw [rdN_next l n (k + 1) (by omega), Nat.pow_succ]
    omega
theorem i32_and_byte (c : UInt8) (m : Nat) (hm : m < 256) : bits BinOp.and IntKind.i32 (c.toNat : Int) (m : Int) = ((c.toNat &&& m : Nat) : Int) := by
  have hc := UInt8.toNat_lt c
  exact (bits_nat .i32 31 (by decide) (fun n h0 h1 => wraps_i32 n h0 h1) c.toNat m (by omega) (by omega)).1
set_option maxRecDepth 100000 in
theorem read_more (s : ByteArray) (at_ n : Nat) (hn : n = 2 ∨ n = 3 ∨ n = 4) (ha : at_ + n ≤ s.size) (hs : s.size ≤ 9223372036854775803) (w : World) :
    Calls Tryd.prog 54 #[.string s, .int .i64 (at_ : Nat), .int .i64 (n : Nat)] w fun e w' => e = .returned (.int .i32 (rdN ((tl s).drop at_) n n : Nat)) ∧ w' = w := by
  have r2 : ∀ c : UInt8, bits BinOp.and IntKind.i32 (c.toNat : Int) 63 = ((c.toNat % 64 : Nat) : Int) := fun c => by
    rw [show (63 : Int) = ((63 : Nat) : Int) from rfl, i32_and_byte c 63 (by omega), show (63 : Nat) = 2 ^ 6 - 1 from rfl, Nat.and_two_pow_sub_one_eq_mod]
  have r3 : bits BinOp.and IntKind.i32 ((s[at_]'(by omega)).toNat : Int) 31 = (((s[at_]'(by omega)).toNat % 32 : Nat) : Int) := by
    rw [show (31 : Int) = ((31 : Nat) : Int) from rfl, i32_and_byte _ 31 (by omega), show (31 : Nat) = 2 ^ 5 - 1 from rfl, Nat.and_two_pow_sub_one_eq_mod]
  have r4 : bits BinOp.and IntKind.i32 ((s[at_]'(by omega)).toNat : Int) 15 = (((s[at_]'(by omega)).toNat % 16 : Nat) : Int) := by
    rw [show (15 : Int) = ((15 : Nat) : Int) from rfl, i32_and_byte _ 15 (by omega), show (15 : Nat) = 2 ^ 4 - 1 from rfl, Nat.and_two_pow_sub_one_eq_mod]
  have r5 : bits BinOp.and IntKind.i32 ((s[at_]'(by omega)).toNat : Int) 7 = (((s[at_]'(by omega)).toNat % 8 : Nat) : Int) := by
    rw [show (7 : Int) = ((7 : Nat) : Int) from rfl, i32_and_byte _ 7 (by omega), show (7 : Nat) = 2 ^ 3 - 1 from rfl, Nat.and_two_pow_sub_one_eq_mod]
  have h0 : Hid ((s[at_]'(by omega)).toNat = bt (tl s) at_) := tl_bt s at_ (by omega)
  have hb0 := UInt8.toNat_lt (s[at_]'(by omega))
  obtain ⟨n', hn'⟩ : ∃ n', n' = n := ⟨_, rfl⟩
  have h2n : 2 ≤ n' := by omega
  rcases hn with rfl | rfl | rfl
  all_goals
    go_enter Tryd.func54, Tryd.ntmps54
    go_wp2_with fail
    go_loop [7, 8] (fun r i => ∃ k : Nat, 1 ≤ k ∧ k ≤ n' ∧ i = .int .i64 k ∧ r = .int .i32 (rdN ((tl s).drop at_) n' k : Nat)) (fun _ i => 4 - (intOf i).toNat)
    case atStart => exact ⟨1, by omega, by omega, rfl, by rw [rdN_one, bt_drop, Nat.add_zero, ← h0.out, hn']; simp⟩
    case round =>
      clear r3 r4 r5 hb0 h0
      obtain ⟨k, hk1, hk4, rfl, rfl⟩ := hrel
      have hlt := rdN_lt ((tl s).drop at_) n' h2n (k - 1)
      rw [Nat.sub_add_cancel hk1] at hlt
      have hlt' : rdN ((tl s).drop at_) n' k < 131072 * 64 := Nat.lt_of_lt_of_le hlt (by
        have : 64 ^ (k - 1) ≤ 64 ^ 3 := Nat.pow_le_pow_right (by omega) (by omega)
        omega)
      clear hlt
      by_cases hk : k < n'
      · have hnx := rdN_next ((tl s).drop at_) n' k hk1
        rw [bt_drop, ← tl_bt s (at_ + k) (by omega)] at hnx
        have HX : Hid (rdN ((tl s).drop at_) n' (k + 1) = rdN ((tl s).drop at_) n' k * 64 + (s[at_ + k]'(by omega)).toNat % 64) := hnx
        have hlt2 : rdN ((tl s).drop at_) n' k < 131072 := by
          have := rdN_lt ((tl s).drop at_) n' h2n (k - 1)
          rw [Nat.sub_add_cancel hk1] at this
          have : 64 ^ (k - 1) ≤ 64 ^ 2 := Nat.pow_le_pow_right (by omega) (by omega)
          omega
        have hbk := UInt8.toNat_lt (s[at_ + k]'(by omega))
        have hr2 := r2 (s[at_ + k]'(by omega))
        clear hnx r2 hlt'
        generalize hR : rdN ((tl s).drop at_) n' k = r at *
        clear hR
        subst hn'
        go_wp2_with fail
        go_round
        case rel => exact ⟨k + 1, by omega, by omega, by go_num, by rw [HX.out]; go_num⟩
        case measure => simp [intOf]; omega
      · obtain rfl : k = n' := by omega
        clear hlt' r2
        subst hn'
        go_wp2_with fail
        go_ret
        exact ⟨rfl, rfl⟩
theorem read_one (s : ByteArray) (at_ : Nat) (ha : at_ < s.size) (_hs : s.size ≤ 9223372036854775803) (w : World) :
    Calls Tryd.prog 54 #[.string s, .int .i64 (at_ : Nat), .int .i64 1] w fun e w' => e = .returned (.int .i32 ((s[at_]).toNat : Nat)) ∧ w' = w := by
  have hb0 := UInt8.toNat_lt (s[at_])
  go_enter Tryd.func54, Tryd.ntmps54
  go_wp2_with fail
  go_ret
  exact ⟨rfl, rfl⟩
theorem rdN_rn (l : List UInt8) (h : (front l).2 = true) (hn : (front l).1 ≠ 1) : rdN l (front l).1 (front l).1 = rn l := by
  have hle := front_le l
  have h1 := hle.2.2.1 h
  unfold rn
  have c : (front l).1 = 2 ∨ (front l).1 = 3 ∨ (front l).1 = 4 := by omega
  rcases c with c | c | c <;> rw [c] <;> simp [rdN] <;> omega
/-- THE RUNE OF A WHOLE SEQUENCE. -/
theorem read_any (s : ByteArray) (at_ : Nat) (hw : (front ((tl s).drop at_)).2 = true) (hs : s.size ≤ 9223372036854775803) (w : World) :
    Calls Tryd.prog 54 #[.string s, .int .i64 (at_ : Nat), .int .i64 ((front ((tl s).drop at_)).1 : Nat)] w fun e w' => e = .returned (.int .i32 (rn ((tl s).drop at_) : Nat)) ∧ w' = w := by
  have hle := front_le ((tl s).drop at_)
  have h1 := hle.2.2.1 hw
  have hl : ((tl s).drop at_).length = s.size - at_ := by simp
  rw [hl] at hle
  by_cases c : (front ((tl s).drop at_)).1 = 1
  · have := read_one s at_ (by omega) hs w
    rw [c]
    have e : rn ((tl s).drop at_) = (s[at_]'(by omega)).toNat := by
      unfold rn
      rw [if_pos c, bt_drop, Nat.add_zero, tl_bt s at_ (by omega)]
    rw [e]
    exact this
  · rw [← rdN_rn _ hw c]
    exact read_more s at_ _ (by omega) (by omega) hs w
end Go.Proofs.YtddeamecgbdajaaDoor
