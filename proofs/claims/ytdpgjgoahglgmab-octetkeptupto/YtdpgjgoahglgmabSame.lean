/- tesserabook.Same and Intact of bytes: their contracts. -/
import Derived.Test.YtdpgjgoahglgmabRows
import Derived.Test.YtdpgjgoahglgmabView
import Derived.WalkSpells
import Derived.WalkLawsBesides
import Derived.Deep.QuietTactic
import Derived.BigQuiet
namespace Go.Proofs.Ytdpgjgoahglgmab
open Go.RowKit
theorem same_step (l r : List UInt8) (k : Nat) (hk : k < l.length) (hl : l.length = r.length) (h : l.take k = r.take k) (e : (l.getD k 0).toNat = (r.getD k 0).toNat) : l.take (k + 1) = r.take (k + 1) := by
  have hk' : k < r.length := by omega
  rw [List.take_add_one, List.take_add_one, h, List.getElem?_eq_getElem hk, List.getElem?_eq_getElem hk']
  simp only [List.getD, List.getElem?_eq_getElem hk, List.getElem?_eq_getElem hk', Option.getD_some] at e
  rw [UInt8.toNat_inj.1 e]
theorem same_apart (l r : List UInt8) (k : Nat) (e : (l.getD k 0).toNat ≠ (r.getD k 0).toNat) : l ≠ r := by
  intro h; subst h; exact e rfl
set_option maxHeartbeats 400000 in
theorem same_len (a c : Option Addr) (cap cap' : Nat) (n m : Nat) (w : World) (h : n ≠ m) :
    Calls Try.prog 10 #[.slice a n cap, .slice c m cap'] w fun e w' => e = .returned (.bool false) ∧ Below w.heap.size w w' := by
  have h' : ((n : Int) != (m : Int)) = true := by simp; omega
  go_enter Try.func10, Try.ntmps10
  go_wp2
  go_ret
  exact ⟨rfl, Below.refl _ _⟩
set_option maxHeartbeats 400000 in
theorem same_none (a c : Option Addr) (cap cap' : Nat) (w : World) :
    Calls Try.prog 10 #[.slice a 0 cap, .slice c 0 cap'] w fun e w' => e = .returned (.bool true) ∧ Below w.heap.size w w' := by
  go_enter Try.func10, Try.ntmps10
  go_wp2
  refine wp_loop_rounds 1 ?_
  rw [rounds_succ]
  go_wp2
  go_ret
  exact ⟨rfl, Below.refl _ _⟩
set_option maxHeartbeats 800000 in
theorem same_some (b off cap b' off' cap' : Nat) (l r : List UInt8) (w : World) (hlen : l.length ≤ 9223372036854775807) (hl : l.length = r.length)
    (hc : ∀ j, j < l.length → w.cell? ⟨b, off + j, none⟩ = some (.int .u8 ((l.getD j 0).toNat : Int)))
    (hd : ∀ j, j < r.length → w.cell? ⟨b', off' + j, none⟩ = some (.int .u8 ((r.getD j 0).toNat : Int))) :
    Calls Try.prog 10 #[.slice (some ⟨b, off, none⟩) l.length cap, .slice (some ⟨b', off', none⟩) l.length cap'] w fun e w' => e = .returned (.bool (decide (l = r))) ∧ Below w.heap.size w w' := by
  obtain ⟨n, hn⟩ : ∃ n, n = l.length := ⟨_, rfl⟩
  have HL : Hid (l.length = r.length) := hl
  have HN : Hid (n = l.length) := hn
  rw [← hn] at hlen ⊢
  clear hl hn
  go_enter Try.func10, Try.ntmps10
  go_wp2
  go_loopw [5] (fun i wr => ∃ k : Nat, k ≤ n ∧ i = .int .i64 k ∧ l.take k = r.take k ∧ Below w.heap.size w wr) (fun i _ => n - (intOf i).toNat)
  case atStart => exact ⟨0, Nat.zero_le _, rfl, rfl, Below.refl _ _⟩
  case round =>
    obtain ⟨k, hk, rfl, hpre, hbr⟩ := hrel
    have HP : Hid (l.take k = r.take k) := hpre
    clear hpre
    by_cases hlt : k < n
    · have hkl : k < l.length := by rw [← HN.out]; exact hlt
      have hkr : k < r.length := by rw [← HL.out]; exact hkl
      have c1 := hc k hkl
      have c2 := hd k hkr
      rw [← hbr.cell (World.block_lt_of_cell? w _ c1)] at c1
      rw [← hbr.cell (World.block_lt_of_cell? w _ c2)] at c2
      obtain ⟨x, hx⟩ : ∃ x, x = (l.getD k 0).toNat := ⟨_, rfl⟩
      obtain ⟨y, hy⟩ : ∃ y, y = (r.getD k 0).toNat := ⟨_, rfl⟩
      rw [← hx] at c1
      rw [← hy] at c2
      have HX : Hid (x = (l.getD k 0).toNat) := hx
      have HY : Hid (y = (r.getD k 0).toNat) := hy
      clear hx hy hc hd hkl hkr
      go_wp2
      go_quiet (fail)
      go_wp2
      · have ht : ((x : Int) != (y : Int)) = true := by assumption
        have hne : x ≠ y := by intro e; subst e; simp at ht
        go_ret
        refine ⟨?_, below_drewN hbr nq⟩
        rw [decide_eq_false (same_apart l r k (by rw [← HX.out, ← HY.out]; exact hne))]
        rfl
      · have ht : ((x : Int) != (y : Int)) = false := by assumption
        have he : x = y := by
          have : (x : Int) = (y : Int) := by simpa using ht
          omega
        refine ⟨⟨k + 1, by omega, by go_num, ?_, below_drewN hbr nq⟩, by simp [intOf]; omega⟩
        exact same_step l r k (by rw [← HN.out]; exact hlt) HL.out HP.out (by rw [← HX.out, ← HY.out]; exact he)
    · have hkn : k = n := by omega
      subst hkn
      clear hc hd
      go_wp2
      go_ret
      refine ⟨?_, hbr⟩
      have h := HP.out
      rw [List.take_of_length_le (by rw [← HN.out]; exact Nat.le_refl _), List.take_of_length_le (by rw [← HL.out, ← HN.out]; exact Nat.le_refl _)] at h
      rw [decide_eq_true h]
      rfl
/-- THE CONTRACT of Same. -/
theorem same_any (a c : Option Addr) (cap cap' : Nat) (l r : List UInt8) (w : World) (hlen : l.length ≤ 9223372036854775807) (hl : BS w a l) (hr : BS w c r) :
    Calls Try.prog 10 #[.slice a l.length cap, .slice c r.length cap'] w fun e w' => e = .returned (.bool (decide (l = r))) ∧ Below w.heap.size w w' := by
  by_cases h : l.length = r.length
  · rcases hl with rfl | ⟨b, off, rfl, hc⟩
    · have : r = [] := List.eq_nil_of_length_eq_zero (by simpa using h.symm)
      subst this
      exact same_none a c cap cap' w
    · rcases hr with rfl | ⟨b', off', rfl, hd⟩
      · have : l = [] := List.eq_nil_of_length_eq_zero (by simpa using h)
        subst this
        exact same_none _ c cap cap' w
      · rw [← h]
        exact same_some b off cap b' off' cap' l r w hlen h hc hd
  · rw [decide_eq_false (fun e => h (by rw [e]))]
    exact same_len a c cap cap' _ _ w h
end Go.Proofs.Ytdpgjgoahglgmab
