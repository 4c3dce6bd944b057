import Derived.Test.YtjbdhakogbolkaaDoorJ9
import Derived.Test.YtjbdhakogbolkaaDoorJ13
import Derived.Test.YtjbdhakogbolkaaDoorJ20
import Derived.Test.YtjbdhakogbolkaaDoorJ18
import Derived.Test.YtjbdhakogbolkaaDoorJ5
section
/- A tree of counts (Fenwick's), as mathematics alone. -/
namespace Go.Proofs.YtjbdhakogbolkaaDoor
set_option linter.unusedVariables false
/-- The lowest bit that is set. -/
def lb (i : Nat) : Nat := if h : i = 0 then 0 else if i % 2 = 1 then 1 else 2 * lb (i / 2)
termination_by i
decreasing_by omega
theorem lb_zero : lb 0 = 0 := by rw [lb]; simp
theorem lb_odd (k : Nat) : lb (2 * k + 1) = 1 := by rw [lb, dif_neg (by omega), if_pos (by omega)]
theorem lb_even (k : Nat) : lb (2 * k) = 2 * lb k := by
  by_cases h : k = 0
  · subst h; rw [Nat.mul_zero, lb_zero]
  · rw [lb, dif_neg (by omega), if_neg (by omega), Nat.mul_div_cancel_left k (by omega)]
theorem parity (i : Nat) : ∃ k, i = 2 * k ∨ i = 2 * k + 1 := ⟨i / 2, by omega⟩
theorem lb_pos {i : Nat} (h : 0 < i) : 0 < lb i := by
  induction i using Nat.strongRecOn with
  | ind i ih =>
    obtain ⟨k, rfl | rfl⟩ := parity i
    · have := ih k (by omega) (by omega)
      rw [lb_even]; omega
    · rw [lb_odd]; omega
theorem lb_le (i : Nat) : lb i ≤ i := by
  induction i using Nat.strongRecOn with
  | ind i ih =>
    obtain ⟨k, rfl | rfl⟩ := parity i
    · by_cases h : k = 0
      · subst h; rw [Nat.mul_zero, lb_zero]; exact Nat.le_refl _
      · have := ih k (by omega)
        rw [lb_even]; omega
    · rw [lb_odd]; omega
/-- Between i and the next of its chain no one reaches below i. -/
theorem lb_gap (i : Nat) : ∀ k, i < k → k < i + lb i → i ≤ k - lb k := by
  induction i using Nat.strongRecOn with
  | ind i ih =>
    intro k h1 h2
    obtain ⟨m, rfl | rfl⟩ := parity i
    · by_cases h0 : m = 0
      · subst h0; omega
      · rw [lb_even] at h2
        obtain ⟨q, rfl | rfl⟩ := parity k
        · have := ih m (by omega) q (by omega) (by omega)
          have := lb_le q
          rw [lb_even]; omega
        · rw [lb_odd]; omega
    · rw [lb_odd] at h2; omega
/-- The next of the chain covers what i covers. -/
theorem lb_next (i : Nat) (h : 0 < i) : i + lb i - lb (i + lb i) ≤ i - lb i := by
  induction i using Nat.strongRecOn with
  | ind i ih =>
    obtain ⟨m, rfl | rfl⟩ := parity i
    · have h1 := ih m (by omega) (by omega)
      have h2 := lb_le m
      have h3 := lb_le (m + lb m)
      rw [lb_even, show 2 * m + 2 * lb m = 2 * (m + lb m) from by omega, lb_even]; omega
    · have h2 := lb_pos (i := m + 1) (by omega)
      rw [lb_odd, show 2 * m + 1 + 1 = 2 * (m + 1) from by omega, lb_even]; omega
/-- i counts the place a. -/
def FCov (i a : Nat) : Prop := i - lb i ≤ a ∧ a < i
theorem FCov.first (a : Nat) : FCov (a + 1) a := ⟨by have := lb_pos (i := a + 1) (by omega); omega, by omega⟩
theorem FCov.next {i a : Nat} (h : FCov i a) : FCov (i + lb i) a := by
  have h1 := lb_next i (by have := h.2; omega)
  exact ⟨by have := h.1; omega, by have := h.2; omega⟩
theorem FCov.between {i a k : Nat} (h : FCov i a) (h1 : i < k) (h2 : k < i + lb i) : ¬ FCov k a := fun g => by
  have := lb_gap i k h1 h2
  have := g.1
  have := h.2
  omega
/-- How many of the places from a on, k of them, stand. -/
def cntB (S : Nat → Bool) (a : Nat) : Nat → Nat
  | 0 => 0
  | k + 1 => cntB S a k + if S (a + k) then 1 else 0
theorem cntB_add (S : Nat → Bool) (a k m : Nat) : cntB S a (k + m) = cntB S a k + cntB S (a + k) m := by
  induction m with
  | zero => rfl
  | succ m ih => rw [← Nat.add_assoc, cntB, cntB, ih, Nat.add_assoc a k m]; omega
theorem cntB_cut (S : Nat → Bool) (x a k : Nat) (hx : S x = true) : cntB (fun y => if y = x then false else S y) a k + (if a ≤ x ∧ x < a + k then 1 else 0) = cntB S a k := by
  induction k with
  | zero => rw [if_neg (by omega)]; rfl
  | succ k ih =>
    rw [cntB, cntB, ← ih]
    by_cases h : a + k = x
    · rw [if_pos h, if_neg (c := a ≤ x ∧ x < a + k) (by omega), if_pos (c := a ≤ x ∧ x < a + (k + 1)) (by omega), h, hx]
      simp
    · rw [if_neg h]
      by_cases h2 : a ≤ x ∧ x < a + k
      · rw [if_pos h2, if_pos (c := a ≤ x ∧ x < a + (k + 1)) (by omega)]; omega
      · rw [if_neg h2, if_neg (c := a ≤ x ∧ x < a + (k + 1)) (by omega)]; omega
theorem cntB_all (a k : Nat) : cntB (fun _ => true) a k = k := by
  induction k with
  | zero => rfl
  | succ k ih => rw [cntB, ih]; simp
/-- What the tree holds at i. -/
def fenC (S : Nat → Bool) (i : Nat) : Nat := cntB S (i - lb i) (lb i)
theorem fenC_new (i : Nat) : fenC (fun _ => true) i = lb i := cntB_all _ _
theorem fenC_cut (S : Nat → Bool) (x i : Nat) (hx : S x = true) : fenC (fun y => if y = x then false else S y) i + (if i - lb i ≤ x ∧ x < i then 1 else 0) = fenC S i := by
  have := cntB_cut S x (i - lb i) (lb i) hx
  rw [Nat.sub_add_cancel (lb_le i)] at this
  exact this
/-- One step of 'ahead'. -/
theorem fenC_ahead (S : Nat → Bool) (i : Nat) : cntB S 0 i = fenC S i + cntB S 0 (i - lb i) := by
  have h := lb_le i
  have := cntB_add S 0 (i - lb i) (lb i)
  rw [Nat.sub_add_cancel h, Nat.zero_add] at this
  rw [this, fenC, Nat.add_comm]
end Go.Proofs.YtjbdhakogbolkaaDoor
end
section
/- The lowest bit, by the machine's own and. -/
namespace Go.Proofs.YtjbdhakogbolkaaDoor
open Go.RowKit
set_option linter.unusedVariables false
theorem and_two (a b : Nat) (x y : Nat) (hx : x < 2) (hy : y < 2) : (2 * a + x) &&& (2 * b + y) = 2 * (a &&& b) + (if x = 1 ∧ y = 1 then 1 else 0) := by
  have h1 : ((2 * a + x) &&& (2 * b + y)) / 2 = a &&& b := by
    rw [Nat.and_div_two, show (2 * a + x) / 2 = a from by omega, show (2 * b + y) / 2 = b from by omega]
  have h2 : ((2 * a + x) &&& (2 * b + y)) % 2 = if x = 1 ∧ y = 1 then 1 else 0 := by
    have h3 := Nat.and_mod_two_pow (a := 2 * a + x) (b := 2 * b + y) (n := 1)
    rw [show (2 : Nat) ^ 1 = 2 from rfl, show (2 * a + x) % 2 = x from by omega, show (2 * b + y) % 2 = y from by omega] at h3
    rw [h3]
    obtain rfl | rfl : x = 0 ∨ x = 1 := by omega
    · obtain rfl | rfl : y = 0 ∨ y = 1 := by omega
      · rfl
      · rfl
    · obtain rfl | rfl : y = 0 ∨ y = 1 := by omega
      · rfl
      · rfl
  omega
theorem and_compl (m : Nat) : ∀ k, k < 2 ^ m → k &&& (2 ^ m - 1 - k) = 0 := by
  induction m with
  | zero => intro k h; rw [show k = 0 by simpa using h]; rfl
  | succ m ih =>
    intro k h
    rw [Nat.pow_succ] at h ⊢
    obtain ⟨q, rfl | rfl⟩ := parity k
    · have := and_two q (2 ^ m - 1 - q) 0 1 (by omega) (by omega)
      rw [ih q (by omega), Nat.add_zero] at this
      rw [show 2 ^ m * 2 - 1 - 2 * q = 2 * (2 ^ m - 1 - q) + 1 from by omega, this]; rfl
    · have := and_two q (2 ^ m - 1 - q) 1 0 (by omega) (by omega)
      rw [ih q (by omega)] at this
      rw [show 2 ^ m * 2 - 1 - (2 * q + 1) = 2 * (2 ^ m - 1 - q) + 0 from by omega, this]; rfl
theorem and_lb (m : Nat) : ∀ i, 0 < i → i < 2 ^ m → i &&& (2 ^ m - i) = lb i := by
  induction m with
  | zero => intro i h0 h; omega
  | succ m ih =>
    intro i h0 h
    rw [Nat.pow_succ] at h ⊢
    obtain ⟨q, rfl | rfl⟩ := parity i
    · have := and_two q (2 ^ m - q) 0 0 (by omega) (by omega)
      rw [ih q (by omega) (by omega), Nat.add_zero, Nat.add_zero] at this
      rw [show 2 ^ m * 2 - 2 * q = 2 * (2 ^ m - q) from by omega, this, lb_even]; rfl
    · have := and_two q (2 ^ m - 1 - q) 1 1 (by omega) (by omega)
      rw [and_compl m q (by omega)] at this
      rw [show 2 ^ m * 2 - (2 * q + 1) = 2 * (2 ^ m - 1 - q) + 1 from by omega, this, lb_odd]; rfl
theorem bits_lb (i : Nat) (h : i < 9223372036854775808) : bits BinOp.and IntKind.i64 (i : Int) (-(i : Int)) = ((lb i : Nat) : Int) := by
  by_cases h0 : i = 0
  · subst h0; rw [lb_zero]; decide
  have h1 := and_lb 64 i (by omega) (by omega)
  have h2 := lb_le i
  have e1 : BitVec.ofInt 64 (i : Int) = BitVec.ofNat 64 i := BitVec.ofInt_natCast 64 i
  have hn : (BitVec.ofNat 64 i &&& -BitVec.ofNat 64 i).toNat = lb i := by
    rw [BitVec.toNat_and, BitVec.toNat_neg, BitVec.toNat_ofNat, Nat.mod_eq_of_lt (by omega), Nat.mod_eq_of_lt (by omega)]
    exact h1
  have e2 : BitVec.ofInt 64 (-(i : Int)) = -BitVec.ofNat 64 i := by rw [BitVec.ofInt_neg, e1]
  unfold bits
  show IntKind.i64.wrap ((BitVec.ofInt 64 (i : Int) &&& BitVec.ofInt 64 (-(i : Int))).toNat) = _
  rw [e1, e2, hn]
  have := lb_le i
  exact IntWalk.i64_in _ ⟨by omega, by omega⟩
set_option maxHeartbeats 400000 in
theorem lowestBit_any (i : Nat) (h : i < 9223372036854775808) (w : World) : Calls Tryd.prog 55 #[.int .i64 (i : Nat)] w fun e w' => e = .returned (.int .i64 (lb i : Nat)) ∧ w' = w := by
  have hb := bits_lb i h
  go_enter Tryd.func55, Tryd.ntmps55
  go_wp2
  go_ret
  exact ⟨rfl, rfl⟩
end Go.Proofs.YtjbdhakogbolkaaDoor
end
section
/- bpe.counts: ahead. -/
namespace Go.Proofs.YtjbdhakogbolkaaDoor
open Go.RowKit Go.Joins
set_option linter.unusedVariables false
set_option linter.unusedSimpArgs false
theorem cntB_le (S : Nat → Bool) (a k : Nat) : cntB S a k ≤ k := by
  induction k with
  | zero => exact Nat.le_refl _
  | succ k ih => rw [cntB]; split <;> omega
def fenL (S : Nat → Bool) (n : Nat) : List Value := (List.range (n + 1)).map fun i => .int .i64 (fenC S i : Nat)
/-- A tree of counts in its block. -/
def FenAt (w : World) (g n : Nat) (S : Nat → Bool) : Prop := w.heap[g]? = some (.cells (fenL S n).toArray 3 (0, 0))
theorem FenAt.cell {w : World} {g n : Nat} {S : Nat → Bool} (h : FenAt w g n S) {i : Nat} (hi : i ≤ n) : w.cell? ⟨g, i, none⟩ = some (.int .i64 (fenC S i : Nat)) := by
  rw [cell_of_block h]
  unfold fenL
  rw [List.getElem?_toArray, List.getElem?_map, List.getElem?_range (by omega)]
  rfl
theorem FenAt.below {w w' : World} {g n : Nat} {S : Nat → Bool} (h : FenAt w g n S) (hb : Below w.heap.size w w') : FenAt w' g n S := (hb.block g (Array.getElem?_eq_some_iff.1 h).1).trans h
set_option maxHeartbeats 800000 in
theorem ahead_any (g n at0 cap : Nat) (S : Nat → Bool) (w : World) (hn : n ≤ 1048576) (ha : at0 ≤ n) (h : FenAt w g n S) :
    Calls Tryd.prog 37 #[.slice (some ⟨g, 0, none⟩) (n + 1) cap, .int .i64 (at0 : Nat)] w fun e w' => e = .returned (.int .i64 (cntB S 0 at0 : Nat)) ∧ w' = w := by
  have H : Hid (FenAt w g n S) := h
  clear h
  go_enter Tryd.func37, Tryd.ntmps37
  go_wp2_with fail
  go_loopw [5, 6] (fun v5 v6 wr => ∃ k x : Nat, k ≤ at0 ∧ x ≤ at0 ∧ x + cntB S 0 k = cntB S 0 at0 ∧ v5 = .int .i64 (x : Nat) ∧ v6 = .int .i64 (k : Nat) ∧ wr = w) (fun _ v6 _ => (intOf v6).toNat)
  case atStart => exact ⟨at0, 0, Nat.le_refl _, Nat.zero_le _, by omega, rfl, rfl, rfl⟩
  case round =>
    obtain ⟨k, x, hk, hx, hs, rfl, rfl, rfl⟩ := hrel
    have HS : Hid (x + cntB S 0 k = cntB S 0 at0) := hs
    by_cases hp : 0 < k
    · have d : decide (0 < (k : Int)) = true := decide_eq_true (by omega)
      have d' : decide (0 < k) = true := decide_eq_true hp
      have c0 := H.out.cell (i := k) (by omega)
      have h1 := fenC_ahead S k
      have h2 := cntB_le S 0 at0
      have h3 := lb_le k
      have h4 := lb_pos hp
      obtain ⟨y, hy⟩ : ∃ y, y = fenC S k := ⟨_, rfl⟩
      rw [← hy] at c0 h1
      have hxy : x + y ≤ at0 := by omega
      have HE : Hid (x + y + cntB S 0 (k - lb k) = cntB S 0 at0) := by show _ = _; omega
      obtain ⟨b, hb⟩ : ∃ b, b = lb k := ⟨_, rfl⟩
      have HL := lowestBit_any k (by omega) wr
      rw [← hb] at HL h3 h4 HE
      have bk : 0 ≤ (k : Int) ∧ (k : Int) < (n : Int) + 1 := by omega
      clear hs h1 h2 hy hb
      go_wp2_with fail
      refine HL.mono ?_
      rintro e w1 ⟨rfl, he⟩
      obtain rfl := he.symm
      clear HL c0
      go_wp2_with fail
      exact ⟨⟨k - b, x + y, by omega, by omega, HE.out, by go_num, by go_num, trivial⟩, by simp only [intOf]; omega⟩
    · obtain rfl : k = 0 := by omega
      have hx0 : x = cntB S 0 at0 := by simpa [cntB] using hs
      have HX : Hid (x = cntB S 0 at0) := hx0
      clear hs hx0 hp
      go_wp2_with fail
      go_ret
      refine ⟨?_, rfl⟩
      rw [← HX.out]
      rfl
/-- The tree while the place at0 is being cut: below i it is cut already. -/
def fenM (S : Nat → Bool) (at0 i j : Nat) : Nat := if j < i then fenC (fun y => if y = at0 then false else S y) j else fenC S j
def fenML (S : Nat → Bool) (n at0 i : Nat) : List Value := (List.range (n + 1)).map fun j => .int .i64 (fenM S at0 i j : Nat)
theorem fenM_first (S : Nat → Bool) (at0 j : Nat) (hS : S at0 = true) : fenM S at0 (at0 + 1) j = fenC S j := by
  unfold fenM
  by_cases h : j < at0 + 1
  · rw [if_pos h]
    have := fenC_cut S at0 j hS
    rw [if_neg (by omega)] at this
    exact this
  · rw [if_neg h]
theorem fenM_next (S : Nat → Bool) (at0 i j : Nat) (hS : S at0 = true) (hc : FCov i at0) : fenM S at0 (i + lb i) j + (if j = i then 1 else 0) = fenM S at0 i j := by
  have h1 := fenC_cut S at0 j hS
  have hp := lb_pos (i := i) (by have := hc.2; omega)
  unfold fenM
  by_cases hj : j = i
  · subst hj
    rw [if_pos (c := at0 ≥ j - lb j ∧ at0 < j) ⟨hc.1, hc.2⟩] at h1
    rw [if_pos (by omega), if_pos rfl, if_neg (Nat.lt_irrefl j)]
    exact h1
  · rw [if_neg hj]
    by_cases h2 : j < i
    · rw [if_pos h2, if_pos (by omega)]; rfl
    · by_cases h3 : j < i + lb i
      · have hb := hc.between (k := j) (by omega) h3
        rw [if_neg (fun g => hb ⟨g.1, g.2⟩)] at h1
        rw [if_pos h3, if_neg h2]
        exact h1
      · rw [if_neg h3, if_neg h2]; rfl
theorem fenM_last (S : Nat → Bool) (n at0 i : Nat) (h : n < i) : fenML S n at0 i = fenL (fun y => if y = at0 then false else S y) n := by
  unfold fenML fenL
  refine List.map_congr_left fun j hj => ?_
  rw [fenM, if_pos (by have := List.mem_range.1 hj; omega)]
theorem fenML_get (S : Nat → Bool) (n at0 i j : Nat) (h : j ≤ n) : (fenML S n at0 i)[j]? = some (.int .i64 (fenM S at0 i j : Nat)) := by
  unfold fenML
  rw [List.getElem?_map, List.getElem?_range (by omega)]
  rfl
theorem fenML_next (S : Nat → Bool) (n at0 i : Nat) (hS : S at0 = true) (hc : FCov i at0) (hi : i ≤ n) : (fenML S n at0 i).set i (.int .i64 ((fenM S at0 i i : Nat) - 1 : Int)) = fenML S n at0 (i + lb i) := by
  refine List.ext_getElem? fun j => ?_
  have hl : (fenML S n at0 i).length = n + 1 := by simp [fenML]
  have hl2 : (fenML S n at0 (i + lb i)).length = n + 1 := by simp [fenML]
  by_cases hj : j ≤ n
  · have h1 := fenM_next S at0 i j hS hc
    rw [fenML_get S n at0 _ j hj]
    by_cases e : j = i
    · subst e
      rw [List.getElem?_set_self (by omega)]
      rw [if_pos rfl] at h1
      congr 2
      omega
    · rw [List.getElem?_set_ne (fun h => e h.symm), fenML_get S n at0 _ j hj]
      rw [if_neg e, Nat.add_zero] at h1
      rw [h1]
  · rw [List.getElem?_eq_none (by rw [List.length_set]; omega), List.getElem?_eq_none (by omega)]
set_option maxHeartbeats 800000 in
theorem fcut_any (g n at0 cap : Nat) (S : Nat → Bool) (w : World) (hn : n ≤ 1048576) (ha : at0 < n) (hS : S at0 = true) (h : FenAt w g n S) :
    Calls Tryd.prog 36 #[.slice (some ⟨g, 0, none⟩) (n + 1) cap, .int .i64 (at0 : Nat)] w fun e w' => e = .returned (.tuple #[]) ∧ FenAt w' g n (fun y => if y = at0 then false else S y) ∧ w.grownBy w' (some g) := by
  have h0 : w.heap[g]? = some (.cells (fenML S n at0 (at0 + 1)).toArray 3 (0, 0)) := by
    have e : fenML S n at0 (at0 + 1) = fenL S n := by
      unfold fenML fenL
      exact List.map_congr_left fun j _ => by rw [fenM_first S at0 j hS]
    rw [e]; exact h
  have H0 : Hid (w.heap[g]? = some (.cells (fenML S n at0 (at0 + 1)).toArray 3 (0, 0))) := h0
  have HSS : Hid (S at0 = true) := hS
  clear h h0 hS
  go_enter Tryd.func36, Tryd.ntmps36
  go_wp2_with fail
  go_loopw [4] (fun v4 wr => ∃ i : Nat, i ≤ 2 * n ∧ FCov i at0 ∧ v4 = .int .i64 (i : Nat) ∧ wr.heap[g]? = some (.cells (fenML S n at0 i).toArray 3 (0, 0)) ∧ w.grownBy wr (some g)) (fun v4 _ => n + 1 - (intOf v4).toNat)
  case atStart => exact ⟨at0 + 1, by omega, FCov.first at0, by go_num, H0.out, World.grownBy.refl _ _⟩
  case round =>
    obtain ⟨i, hi, hc, rfl, hh, hg⟩ := hrel
    have HC : Hid (FCov i at0) := hc
    have HH : Hid (wr.heap[g]? = some (.cells (fenML S n at0 i).toArray 3 (0, 0))) := hh
    have HG : Hid (w.grownBy wr (some g)) := hg
    by_cases hp : i ≤ n
    · have d : decide ((i : Int) < (n : Int) + 1) = true := decide_eq_true (by omega)
      have d' : decide (i < n + 1) = true := decide_eq_true (by omega)
      have c0 : wr.cell? ⟨g, i, none⟩ = some (.int .i64 (fenM S at0 i i : Nat)) := by
        rw [cell_of_block hh, List.getElem?_toArray]; exact fenML_get S n at0 i i hp
      have f0 : wr.frozen? ⟨g, i, none⟩ = false := unfrozen_of_block hh i
      have h3 := lb_le i
      have h4 := lb_pos (i := i) (by have := hc.2; omega)
      have h5 : fenM S at0 i i ≤ i := by
        rw [fenM, if_neg (Nat.lt_irrefl i)]
        exact Nat.le_trans (cntB_le _ _ _) h3
      have HNX : Hid ((fenML S n at0 i).set i (.int .i64 ((fenM S at0 i i : Nat) - 1 : Int)) = fenML S n at0 (i + lb i)) := fenML_next S n at0 i HSS.out hc hp
      have HCN : Hid (FCov (i + lb i) at0) := hc.next
      obtain ⟨y, hy⟩ : ∃ y, y = fenM S at0 i i := ⟨_, rfl⟩
      rw [← hy] at c0 h5 HNX
      obtain ⟨b, hb⟩ : ∃ b, b = lb i := ⟨_, rfl⟩
      have HL := fun W => lowestBit_any i (by omega) W
      rw [← hb] at HL h3 h4 HNX HCN
      have bk : 0 ≤ (i : Int) ∧ (i : Int) < (n : Int) + 1 := by omega
      clear hh hg hc hy hb
      go_wp2_with fail
      refine (HL _).mono ?_
      rintro e w1 ⟨rfl, he⟩
      obtain rfl := he.symm
      clear HL c0 f0
      go_wp2_with fail
      refine ⟨⟨i + b, by omega, HCN.out, by go_num, ?_, ?_⟩, by simp only [intOf]; omega⟩
      · have := block_setCell HH.out (i := i) (.int .i64 ((y : Int) - 1))
        rw [this, ← HNX.out]
        simp
      · exact HG.out.trans ⟨rfl, rfl, rfl, by simp, fun k _ hk => heap_setCell_other wr ⟨g, i, none⟩ k _ (fun e => hk (by simp [e]))⟩
    · have d : decide ((i : Int) < (n : Int) + 1) = false := decide_eq_false (by omega)
      have d' : decide (i < n + 1) = false := decide_eq_false (by omega)
      clear hh hg hc
      go_wp2_with fail
      go_end0
      refine ⟨rfl, ?_, HG.out⟩
      have := HH.out
      rw [fenM_last S n at0 i (by omega)] at this
      exact this
end Go.Proofs.YtjbdhakogbolkaaDoor
end
section
/- bpe.newCounts. -/
namespace Go.Proofs.YtjbdhakogbolkaaDoor
open Go.RowKit Go.Joins
set_option linter.unusedVariables false
set_option linter.unusedSimpArgs false
def newL (n k : Nat) : List Int := (List.range (n + 1)).map fun j => if j < k then ((lb j : Nat) : Int) else 0
theorem newL_zero (n : Nat) : newL n 0 = List.replicate (n + 1) 0 := by
  refine List.ext_getElem (by simp [newL]) fun i h1 h2 => ?_
  simp [newL]
theorem newL_get (n k j : Nat) (h : j ≤ n) : (newL n k)[j]? = some (if j < k then ((lb j : Nat) : Int) else 0) := by
  unfold newL
  rw [List.getElem?_map, List.getElem?_range (by omega)]; rfl
theorem newL_set (n k : Nat) (h : k ≤ n) : (newL n k).set k ((lb k : Nat) : Int) = newL n (k + 1) := by
  refine List.ext_getElem? fun j => ?_
  have hl : (newL n k).length = n + 1 := by simp [newL]
  have hl2 : (newL n (k + 1)).length = n + 1 := by simp [newL]
  by_cases hj : j ≤ n
  · rw [newL_get n _ j hj]
    by_cases e : j = k
    · subst e
      rw [List.getElem?_set_self (by omega), if_pos (by omega)]
    · rw [List.getElem?_set_ne (fun h => e h.symm), newL_get n _ j hj]
      by_cases h2 : j < k
      · rw [if_pos h2, if_pos (by omega)]
      · rw [if_neg h2, if_neg (by omega)]
  · rw [List.getElem?_eq_none (by rw [List.length_set]; omega), List.getElem?_eq_none (by omega)]
theorem newL_last (n : Nat) : cellsN (newL n (n + 1)) = fenL (fun _ => true) n := by
  unfold cellsN newL fenL
  rw [List.map_map]
  refine List.map_congr_left fun j hj => ?_
  have := List.mem_range.1 hj
  simp only [Function.comp]
  rw [if_pos this, fenC_new]
set_option maxHeartbeats 800000 in
theorem newCounts_any (n : Nat) (w : World) (hn : n ≤ 1048576) :
    Calls Tryd.prog 34 #[.int .i64 (n : Nat)] w fun e w' => e = .returned (.slice (some ⟨w.heap.size, 0, none⟩) (n + 1) (n + 1)) ∧ FenAt w' w.heap.size n (fun _ => true) ∧ Below w.heap.size w w' := by
  obtain ⟨i0, hi, hz0, hz1, hz2⟩ := HQ.info_parts infoN
  have hmk : ∀ u : World, (Instr.makeSlice 80 (.int .i64 ((n : Int) + 1)) (.int .i64 ((n : Int) + 1))).run Tryd.prog u =
      .ok (.slice (some ⟨u.heap.size, 0, none⟩) (n + 1) (n + 1)) (u.alloc (.cells (cellsN (newL n 0)).toArray 3)) := fun u => by
    have h := run_make (P := Tryd.prog) u 80 3 i0 (.int .i64 0) Tryd.underlying80 hi hz0 .i64 .i64 ((n : Int) + 1) ((n : Int) + 1) (by omega) (Int.le_refl _) (by rw [hz2]; omega) (by omega)
    have e : ((n : Int) + 1).toNat = n + 1 := by omega
    rw [e] at h
    have e2 : (madeCells #[Value.int .i64 0] (n + 1)) = (cellsN (newL n 0)).toArray := by
      rw [newL_zero, show cellsN (List.replicate (n + 1) 0) = List.replicate (n + 1) (Value.int .i64 0) by unfold cellsN; simp]
      rw [← toList_madeCells_one]
    rw [← e2]
    simpa [hz1, Value.cells] using h
  obtain ⟨wa, hwa⟩ : ∃ wa, wa = w.alloc (.cells (cellsN (newL n 0)).toArray 3) := ⟨_, rfl⟩
  have hbA : Below w.heap.size w wa := by rw [hwa]; exact (Below.refl w.heap.size w).alloc (Nat.le_refl _) _
  have hO : OwnB wa w.heap.size (cellsN (newL n 0)) := by rw [hwa]; exact heap_alloc_new w _
  obtain ⟨g, hg⟩ : ∃ g, g = w.heap.size := ⟨_, rfl⟩
  rw [← hg] at hO hbA
  have HGG : Hid (g = w.heap.size) := hg
  go_enter Tryd.func34, Tryd.ntmps34
  go_wp2_with fail
  rw [← hwa, ← hg]
  clear hmk hwa hg
  go_loopw [10] (fun i wr => ∃ k : Nat, k ≤ n + 1 ∧ i = .int .i64 (k : Nat) ∧ OwnB wr g (cellsN (newL n k)) ∧ Below g w wr) (fun i _ => n + 1 - (intOf i).toNat)
  case atStart => exact ⟨0, Nat.zero_le _, by simp, hO, hbA⟩
  case round =>
    obtain ⟨k, hk, rfl, hown, hbr⟩ := hrel
    have HO : Hid (OwnB wr g (cellsN (newL n k))) := hown
    have HB : Hid (Below g w wr) := hbr
    by_cases hlt : k ≤ n
    · have HNX : Hid ((newL n k).set k ((lb k : Nat) : Int) = newL n (k + 1)) := newL_set n k hlt
      have hcell : wr.cell? ⟨g, k, none⟩ = some (.int .i64 0) := by
        rw [hown.cell]; exact cellsN_get _ _ _ (by rw [newL_get n k k hlt, if_neg (Nat.lt_irrefl k)])
      have hfree := hown.free k
      have HL := lowestBit_any k (by omega) wr
      obtain ⟨b, hb⟩ : ∃ b, b = lb k := ⟨_, rfl⟩
      rw [← hb] at HL HNX
      have d : decide ((k : Int) < (n : Int) + 1) = true := decide_eq_true (by omega)
      have d' : decide (k < n + 1) = true := decide_eq_true (by omega)
      have bk : 0 ≤ (k : Int) ∧ (k : Int) < (n : Int) + 1 := by omega
      clear hb hown hbr hO hbA
      go_wp2_with fail
      refine HL.mono ?_
      rintro e w1 ⟨rfl, he⟩
      obtain rfl := he.symm
      clear HL
      go_wp2_with fail
      refine ⟨⟨k + 1, by omega, by go_num, ?_, ?_⟩, by simp only [intOf]; omega⟩
      · have := HO.out.set k (.int .i64 (b : Nat))
        rw [cellsN_set, HNX.out] at this
        exact this
      · exact HB.out.setCell (p := ⟨g, k, none⟩) (Nat.le_refl _) _
    · obtain rfl : k = n + 1 := by omega
      have d : decide (((n + 1 : Nat) : Int) < (n : Int) + 1) = false := decide_eq_false (by omega)
      clear hown hbr hO hbA
      go_wp2_with fail
      go_ret
      have h1 := HO.out
      rw [newL_last] at h1
      rw [← HGG.out]
      exact ⟨rfl, h1, HB.out⟩
end Go.Proofs.YtjbdhakogbolkaaDoor
end
section
/- bpe.Steps: what its iterator turns, what a round keeps; the places that stand. -/
namespace Go.Proofs.YtjbdhakogbolkaaDoor
open Go.RowKit Go.Shelf Go.Lib
open Go.Joins Go.Sort
set_option linter.unusedVariables false
set_option linter.unusedSimpArgs false
theorem roundIn_any {l m m' : Nat} {P : Program} {lp : Nat} {fn : FuncId} {tmps : Array Value} {assign body : Code} {W : World} {R : Ending → World → Prop} (h : RoundIn Fence.wide m P lp fn tmps assign body W R) : RoundIn (Fence.wide.inRound l) m' P lp fn tmps assign body W R :=
  ⟨h.1, fun c cs _ => h.2 c cs (by simp [Fence.room, Fence.wide])⟩
theorem wpIn_then_false {F : Fence} {n : Nat} {P : Program} {c : Code} {K : Act → World → Prop} {Q : Exit → Act → World → Prop} {a : Act} {w : World} (h : c.wpIn F n P (Exit.then K (fun _ _ _ => False)) a w) : c.wpIn F n P (Exit.then K Q) a w :=
  wpIn_mono h (by intro e a w h; cases e <;> first | exact h | exact h.elim)
/-- A step's value. -/
def valS (x : Nat × Nat) : Value := .agg #[.int .i64 (x.1 : Nat), .int .i64 (x.2 : Nat)]
/-- What the steps' iterator may turn: from lo on; of q's and later ones: pairs, and no cells. -/
structure RlS (lo q : Nat) (A B : World) : Prop where
  os : B.os = A.os
  tape : B.tape = A.tape
  output : B.output = A.output
  size : A.heap.size ≤ B.heap.size
  old : ∀ k, k < lo → B.heap[k]? = A.heap[k]?
  block : ∀ k o, q ≤ k → A.heap[k]? = some o → ¬ PairO o → o.isCells = true → B.heap[k]? = some o
theorem RlP.toS {lo hi lo' q : Nat} {A B : World} (h : RlP lo hi A B) (h1 : lo' ≤ lo) (h2 : hi ≤ q) : RlS lo' q A B :=
  ⟨h.os, h.tape, h.output, h.size, fun k hk => h.old k (by omega), fun k o hk ho hn _ => h.block k o (by omega) ho hn⟩
theorem RlS.of_below {lo q : Nat} {A B : World} (h : Below A.heap.size A B) (hl : lo ≤ A.heap.size) : RlS lo q A B := (RlP.of_below (hi := q) h hl).toS (Nat.le_refl _) (Nat.le_refl _)
theorem RlS.below {lo q : Nat} {A B : World} (h : RlS lo q A B) : Below lo A B := ⟨h.os, h.tape, h.output, h.size, h.old⟩
theorem RlS.of_grown {lo q : Nat} {A B : World} {row : Option Nat} (h : A.grownBy B row) (hl : lo ≤ A.heap.size) (hr : ∀ r, row = some r → lo ≤ r ∧ (r < q ∨ ∃ o : Obj, A.heap[r]? = some o ∧ o.isCells = false)) : RlS lo q A B :=
  ⟨h.os, h.tape, h.output, h.size, fun k hk => h.block k (by omega) (fun e => by have := (hr k e.symm).1; omega), fun k o hk ho hn hc => (h.block k (Array.getElem?_eq_some_iff.1 ho).1 (fun e => by
    rcases (hr k e.symm).2 with h1 | ⟨o', h1, h2⟩
    · omega
    · rw [ho] at h1; cases h1; rw [hc] at h2; cases h2)).trans ho⟩
/-- What a round keeps: what is older than M0; all cells from B0 on; pairs. -/
structure KpS (M0 B0 : Nat) (A B : World) : Prop where
  os : B.os = A.os
  tape : B.tape = A.tape
  output : B.output = A.output
  size : A.heap.size ≤ B.heap.size
  old : ∀ k, k < M0 → B.heap[k]? = A.heap[k]?
  cells : ∀ k o, (B0 ≤ k ∨ PairO o) → o.isCells = true → A.heap[k]? = some o → B.heap[k]? = some o
theorem KpS.toP {M0 B0 lo hi : Nat} {A B : World} (h : KpS M0 B0 A B) (hb : B0 ≤ lo) : KpP M0 lo hi A B :=
  ⟨h.os, h.tape, h.output, h.size, h.old, fun k o h1 hc ho => h.cells k o (h1.imp_left fun h => by omega) hc ho⟩
theorem KpS.trans {M0 B0 : Nat} {A B C : World} (h : KpS M0 B0 A B) (k : KpS M0 B0 B C) : KpS M0 B0 A C :=
  ⟨k.os.trans h.os, k.tape.trans h.tape, k.output.trans h.output, Nat.le_trans h.size k.size, fun i hi => (k.old i hi).trans (h.old i hi), fun i o hp hc ho => k.cells i o hp hc (h.cells i o hp hc ho)⟩
theorem KpS.refl {M0 B0 : Nat} (A : World) : KpS M0 B0 A A := ⟨rfl, rfl, rfl, Nat.le_refl _, fun _ _ => rfl, fun _ _ _ _ h => h⟩
theorem KpS.of_below {M0 B0 : Nat} {A B : World} (h : Below A.heap.size A B) (hM : M0 ≤ A.heap.size) : KpS M0 B0 A B :=
  ⟨h.os, h.tape, h.output, h.size, fun k hk => h.block k (by omega), fun k o _ _ ho => (h.block k (Array.getElem?_eq_some_iff.1 ho).1).trans ho⟩
theorem KpS.putObj {M0 B0 : Nat} (W : World) (l : Nat) (o o' : Obj) (h : W.heap[l]? = some o) (ho : o.isCells = false) (hM : M0 ≤ l) : KpS M0 B0 W (W.putObj l o') :=
  ⟨rfl, rfl, rfl, by simp, fun k hk => World.putObj_heap_other (by omega), fun k u _ hu hk => (World.putObj_heap_other (fun e => by
    subst e
    rw [h] at hk
    cases hk
    rw [ho] at hu
    cases hu)).trans hk⟩
theorem KpP.of_grown {M0 lo hi : Nat} {A B : World} {row : Option Nat} (h : A.grownBy B row) (hM : M0 ≤ A.heap.size) (hr : ∀ r, row = some r → M0 ≤ r ∧ (r < lo ∨ hi ≤ r) ∧ ∀ o, A.heap[r]? = some o → ¬ PairO o) : KpP M0 lo hi A B :=
  ⟨h.os, h.tape, h.output, h.size, fun k hk => h.block k (by omega) (fun e => by have := (hr k e.symm).1; omega), fun k o h1 hc ho => (h.block k (Array.getElem?_eq_some_iff.1 ho).1 (fun e => by
    obtain ⟨g1, g2, g3⟩ := hr k e.symm
    rcases h1 with h1 | h1
    · omega
    · exact g3 o ho h1)).trans ho⟩
theorem cntB_cnt {S inn : Nat → Bool} : ∀ {l : Nat}, (∀ y, y < l → S y = inn y) → cntB S 0 l = CH.cntG inn l
  | 0, _ => rfl
  | l + 1, h => by
    rw [cntB, CH.cntG, cntB_cnt (fun y hy => h y (by omega)), Nat.zero_add, h l (by omega)]
theorem IsP.step {ms : List Mg} {n : Nat} {s : StJ} {x : HQ.El} (h : IsP ms n s x) : ∃ p k q : Nat, x.p = (p : Int) ∧ x.k = (k : Int) ∧ x.q = (q : Int) ∧ p < n ∧ q < n ∧ p < q ∧ s.1 q = true ∧ (stp s x).1 = CH.cutP s.1 q ∧ x.p.toNat = p ∧ x.k.toNat = k := by
  obtain ⟨l, k, e1, e2, e3, hl, hin, hx, hpa, hmin⟩ := h
  refine ⟨l, k, CH.nxF s.1 n l, e1, e2, e3, hl, hx, CH.nx_gt hl, CH.nx_in (by omega) hx, ?_, by omega, by omega⟩
  unfold stp; rw [e3]; rfl
variable {F : Fence} {n : Nat} {P : Program} {w : World}
theorem wpIn_rangeFunc_G2 {α : Type} {g : Operand} {ps : Array Tmp} {assign body : Code} {Q : Exit → Act → World → Prop} {a : Act}
    (hro : F.round = none) (h1 : 1 ≤ n) {gf : Nat} {lb : Array Value} (hg : a.eval g = .func (.func gf) #[] lb) (hFg : F.fn gf) (eg : ∀ args w, (callFunc gf args).run P w = .ok (.enter gf args) w)
    {encs : α → Array Value} {Rl : Nat → Nat → World → World → Prop} {Kp : Nat → World → World → Prop} {Ok : List α → α → Prop} {Fin : List α → World → Prop} {Sp : List α → Prop} {w0 : World} (hseq : SeqG F (n - 1) P gf lb encs Rl Kp Ok Fin Sp w0)
    (hRl : ∀ q A B k o, w.heap.size + 2 ≤ q ∨ True → Rl (w.heap.size + 2) q A B → k < w.heap.size + 2 → w.heap.size ≤ k → A.heap[k]? = some o → o.isCells = false → B.heap[k]? = some o)
    (hFin : ∀ xs A o o', Fin xs A → A.heap[w.heap.size + 1]? = some o → o.isCells = false → Fin xs (A.putObj (w.heap.size + 1) o'))
    (hKt : ∀ {A B C : World}, Kp (w.heap.size + 2) A B → Kp (w.heap.size + 2) B C → Kp (w.heap.size + 2) A C) (hKb : ∀ (W : World) (o o' : Obj), W.heap[w.heap.size + 1]? = some o → o.isCells = false → o.isWalk = false → Kp (w.heap.size + 2) W (W.putObj (w.heap.size + 1) o')) (hb0 : Below w0.heap.size w0 w) (hps : ∀ x, (encs x).size = ps.size)
    (I : Nat → List α → World → Prop) (Ix : Code → Nat → List α → World → Prop) (hI' : ∀ q, OwnFrom w.heap.size (I q)) (hIx' : ∀ c q, OwnFrom w.heap.size (Ix c q)) (hI : AbG (Rl (w.heap.size + 2)) I) (hIx : ∀ c, AbG (Rl (w.heap.size + 2)) (Ix c)) (h0 : ∀ q, w.heap.size + 2 ≤ q → I q [] w) (f : Act → α → Nat → Act) (O : α → Obj) (hO : ∀ x, (O x).isCells = true)
    (hassign : ∀ (q : Nat) (pre : List α) (x : α) (W : World) (K : Act → World → Prop), I q pre W → w.heap.size + 2 ≤ q → q ≤ W.heap.size → (∀ a' W' b, KeepsFrom w.heap.size W W' → Kp (w.heap.size + 2) W W' → I q pre W' → W'.heap[b]? = some (O x) → a' = f a x b → K a' W') →
      assign.wpIn (F.inRound (w.heap.size + 1)) (n - 1 - 1) P (Exit.then K (fun _ _ _ => False)) { tmps := (ps.zip (encs x)).foldl (fun t (p, v) => t.setIfInBounds p v) a.tmps, defers := [] } W)
    (hbody : ∀ (q : Nat) (pre : List α) (x : α) (b : Nat) (W : World), (∃ r, W.heap[w.heap.size + 1]? = some (.loop r)) → w.heap.size + 2 ≤ q → q ≤ W.heap.size → I q pre W → W.heap[b]? = some (O x) → Ok pre x → body.wpIn (F.inRound (w.heap.size + 1)) (n - 1 - 1) P (ownPostG w.heap.size (Kp (w.heap.size + 2)) (I q) (fun c => Ix c q) (pre ++ [x]) W) (f a x b) W)
    (hdone : ∀ (D q : Nat) (xs : List α) (W : World), D = w.heap.size → w.heap.size + 2 ≤ q → Fin xs W → I q xs W → W.heap[D]? = some (.deferred (some [])) → Q .normal { a with defers := { target := .collected D, args := #[] } :: a.defers } W)
    (hstop : ∀ (D q : Nat) (c : Code) (pre : List α) (W : World), D = w.heap.size → w.heap.size + 2 ≤ q → Sp pre → Ix c q pre W → W.heap[D]? = some (.deferred (some [])) → c.wpIn F n P Q { a with defers := { target := .collected D, args := #[] } :: a.defers } W) :
    (Code.rangeFunc g ps assign body).wpIn F n P Q a w :=
  wpIn_rangeFunc_G hro h1 hg hFg eg hseq hRl hFin hKt hKb hb0 hps I Ix hI' hIx' hI hIx h0 (fun x a' W => ∃ b, W.heap[b]? = some (O x) ∧ a' = f a x b)
    (fun x a' _ X Y row hs hg hr => by
      obtain ⟨b, g1, g2⟩ := hs
      exact ⟨b, (hg.block b (Array.getElem?_eq_some_iff.1 g1).1 (fun e => by
        obtain ⟨_, o, ho, hc⟩ := hr b e.symm
        rw [g1] at ho
        cases ho
        rw [hO] at hc
        cases hc)).trans g1, g2⟩)
    (fun q pre x W K hi hq1 hq2 hK => hassign q pre x W K hi hq1 hq2 (fun a' W' b k1 k2 k3 k4 k5 => hK a' W' k1 k2 k3 ⟨b, k4, k5⟩))
    (fun q pre x a' W g1 g2 g3 g4 g5 g6 => by
      obtain ⟨b, g7, g8⟩ := g5
      subst g8
      exact hbody q pre x b W g1 g2 g3 g4 g7 g6) hdone hstop
end Go.Proofs.YtjbdhakogbolkaaDoor
end
section
/- bpe.Steps: its iterator's contract. -/
namespace Go.Proofs.YtjbdhakogbolkaaDoor
open Go.RowKit Go.Shelf Go.Lib
open Go.Joins Go.Sort
attribute [local go_sem] Oper.semAt_some
set_option linter.unusedVariables false
set_option linter.unusedSimpArgs false
set_option maxRecDepth 100000
def pO (x : HQ.El) : Obj := .cells #[.int .i64 x.k, .int .i64 x.i, .int .i64 x.p, .int .i64 x.q] 86
def actP (a : Act) (x : HQ.El) (b : Nat) : Act := { tmps := (a.tmps.setIfInBounds 19 (HQ.valE x)).setIfInBounds 5 (.pointer (some ⟨b, 0, none⟩)), defers := [] }
/-- bpe.Steps: its captured boxes. -/
theorem steps_in (n : Nat) (p : Option Addr) (s : ByteArray) (w : World) :
    CallsIn Fence.wide n Tryd.prog 12 #[.pointer p, .string s] w fun e w' => e = .returned (.func (.func 33) #[] #[.pointer (some ⟨w.heap.size, 0, none⟩), .pointer (some ⟨w.heap.size + 1, 0, none⟩)]) ∧ w' = (w.alloc (.cells #[.pointer p] 31)).alloc (.cells #[.string s] 9) := by
  refine callsIn_of_wp Tryd.func12 rfl trivial ?_ rfl
  simp only [Tryd.ntmps12, List.size_toArray, List.length_cons, List.length_nil, Nat.reduceAdd, Nat.reduceSub, Array.replicate_succ, Array.replicate_zero, List.push_toArray, List.append_toArray, List.nil_append, List.cons_append]
  gi_wp2
  go_ret
  exact ⟨rfl, rfl⟩
set_option maxHeartbeats 4000000 in
theorem steps1_in (n0 : Nat) (hn0 : 4 ≤ n0) (lp Bm Bs B0 mg lo : Nat) (s : ByteArray) (hs : s.size ≤ 1048576) (ws : List ByteArray) (ms : List Mg) (A B C : List Sp) (wM : World) (J Jx : Nat → List (Nat × Nat) → World → Prop)
    (hMI : ∀ l r k i, mergeM ms l r = some (k, i) → W64 i) (hM : ModelAt wM lo mg ws ms A B C) (W : World) (hB0 : B0 = W.heap.size) (hMw : Below wM.heap.size wM W)
    (hJ : ∀ q pre X Y, J q pre X → RlS B0 q X Y → J q pre Y)
    (hJx : ∀ q pre X Y, Jx q pre X → RlS B0 q X Y → Jx q pre Y)
    (hY : ∀ q pre x W1, B0 ≤ q → q ≤ W1.heap.size → J q pre W1 → (∃ cur i, JS ms (byL s) pre cur ∧ IsN ms cur x.1 x.2 i) → YieldAt Fence.wide (n0 - 1) Tryd.prog lp #[valS x] W1 fun e W' => KeepsFrom B0 W1 W' ∧
      ((e = .returned (.bool true) ∧ J q (pre ++ [x]) W' ∧ KpS wM.heap.size B0 W1 W') ∨ (e = .returned (.bool false) ∧ Jx q (pre ++ [x]) W')))
    (h0 : ∀ q, B0 ≤ q → J q [] W)
    (hBm : Boxed W Bm 31 (.pointer (some ⟨mg, 0, none⟩))) (hBs : Boxed W Bs 9 (.string s)) :
    CallsIn Fence.wide n0 Tryd.prog 33 #[.func (.yield lp) #[] #[], .pointer (some ⟨Bm, 0, none⟩), .pointer (some ⟨Bs, 0, none⟩)] W fun e W' => (∃ v, e = .returned v) ∧
      ∃ q, B0 ≤ q ∧ ((∃ xs, (∃ l, JR ms (byL s) xs l) ∧ J q xs W') ∨ (∃ pre, True ∧ Jx q pre W')) := by
  refine callsIn_of_wp_marks Tryd.func33 rfl trivial ?_ rfl
  simp only [Tryd.ntmps33, List.size_toArray, List.length_cons, List.length_nil, Nat.reduceAdd, Nat.reduceSub, Array.replicate_succ, Array.replicate_zero, List.push_toArray, List.append_toArray, List.nil_append, List.cons_append]
  have cm0 := fun o => cell_alloc_s hBm.cell o
  have cs0 := fun o => cell_alloc_s hBs.cell o
  have ltm : Bm < W.heap.size := hBm.lt
  have lts : Bs < W.heap.size := hBs.lt
  have b1 : Below W.heap.size W (W.alloc (.cells #[.func (.yield lp) #[] #[]] 79)) := (Below.refl _ W).alloc (Nat.le_refl _) _
  have yb1 : Boxed (W.alloc (.cells #[.func (.yield lp) #[] #[]] 79)) W.heap.size 79 (.func (.yield lp) #[] #[]) := Boxed.new W 79 _
  have s1 : (W.alloc (.cells #[.func (.yield lp) #[] #[]] 79)).heap.size = W.heap.size + 1 := by simp
  have HR := refusal_any (some ⟨mg, 0, none⟩) s.size (W.alloc (.cells #[.func (.yield lp) #[] #[]] 79))
  rw [show refuF (some ⟨mg, 0, none⟩) s.size = 0 by unfold refuF; rw [if_neg (by simp), if_neg (by omega)]] at HR
  gi_wp2_with fail
  refine ⟨trivial, fun _ => by omega, (callsIn_wide.2 HR).mono ?_⟩
  rintro e w1 ⟨rfl, he⟩
  rw [← he] at b1 yb1 s1
  have cm1 : w1.cell? ⟨Bm, 0, none⟩ = some (.pointer (some ⟨mg, 0, none⟩)) := by rw [he]; exact cm0 _
  have cs1 : w1.cell? ⟨Bs, 0, none⟩ = some (.string s) := by rw [he]; exact cs0 _
  clear HR he cm0 cs0
  gi_wp2_with fail
  have HN := newCounts_any s.size w1 hs
  refine ⟨trivial, fun _ => by omega, (callsIn_wide.2 HN).mono ?_⟩
  rintro e w2 ⟨rfl, hF2, hb2⟩
  have B2 := b1.trans (hb2.mono (by omega))
  have yb2 := boxed_below_s yb1 hb2
  have cm2 := (hb2.cell (p := ⟨Bm, 0, none⟩) (by show Bm < w1.heap.size; omega)).trans cm1
  have cs2 := (hb2.cell (p := ⟨Bs, 0, none⟩) (by show Bs < w1.heap.size; omega)).trans cs1
  have hs2 := hb2.size
  have hf2 : w1.heap.size < w2.heap.size := (Array.getElem?_eq_some_iff.1 hF2).1
  clear HN cm1 cs1 yb1
  obtain ⟨fb, hfb⟩ : ∃ fb, fb = w1.heap.size := ⟨_, rfl⟩
  rw [← hfb] at hF2 hf2 ⊢
  have hfw : W.heap.size < fb := by omega
  clear hfb
  obtain ⟨w3, hw3⟩ : ∃ w3, w3 = w2.alloc (.cells #[.slice (some ⟨fb, 0, none⟩) (s.size + 1) (s.size + 1)] 80) := ⟨_, rfl⟩
  have hb3 : Below w2.heap.size w2 w3 := by rw [hw3]; exact (Below.refl _ w2).alloc (Nat.le_refl _) _
  have sb3 : Boxed w3 w2.heap.size 80 (.slice (some ⟨fb, 0, none⟩) (s.size + 1) (s.size + 1)) := by
    rw [hw3]; exact Boxed.new w2 80 _
  have s3 : w3.heap.size = w2.heap.size + 1 := by rw [hw3]; simp
  have B3 := B2.trans (hb3.mono (by omega))
  have yb3 := boxed_below_s yb2 hb3
  have cm3 := (hb3.cell (p := ⟨Bm, 0, none⟩) (by show Bm < w2.heap.size; omega)).trans cm2
  have cs3 := (hb3.cell (p := ⟨Bs, 0, none⟩) (by show Bs < w2.heap.size; omega)).trans cs2
  have hF3 := hF2.below hb3
  clear yb2 cm2 cs2 hF2
  gi_wp2_with fail
  rw [← hw3]
  clear hw3
  obtain ⟨sb, hsb⟩ : ∃ sb, sb = w2.heap.size := ⟨_, rfl⟩
  rw [← hsb] at sb3 s3 hf2 ⊢
  clear hsb
  have hB := bytesOf_any s w3.drew hs
  have hd3 : w3.drew.heap.size = w3.heap.size := rfl
  refine wpIn_then_false (wpIn_wide.2 ?_)
  refine wp_region_heldtail 4 (fun w' : World => w'.cell? ⟨Bm, 0, none⟩ = some (.pointer (some ⟨mg, 0, none⟩)) ∧ w'.cell? ⟨Bs, 0, none⟩ = some (.string s)) (by kernel_rfl) (by kernel_rfl) ?_
  refine HL_take (i := 0) (.pointer (some ⟨mg, 0, none⟩)) (by kernel_rfl) rfl (by omega) (by kernel_rfl) (by kernel_rfl) (by kernel_rfl) (fun _ _ _ h => h) (.inl ⟨by kernel_rfl, fun w' hw' => by obtain ⟨q1, q2⟩ := hw'; go_simp⟩) ⟨cm3, cs3⟩ ?_
  simp only [Act.put, List.getElem_toArray, List.getElem_cons_zero, List.getElem_cons_succ, List.setIfInBounds_toArray, List.set_cons_zero, List.set_cons_succ]
  refine HL_take (i := 1) (.string s) (by kernel_rfl) rfl (by omega) (by kernel_rfl) (by kernel_rfl) (by kernel_rfl) (fun _ _ _ h => h) (.inl ⟨by kernel_rfl, fun w' hw' => by obtain ⟨q1, q2⟩ := hw'; go_simp⟩) ⟨cm3, cs3⟩ ?_
  simp only [Act.put, List.getElem_toArray, List.getElem_cons_zero, List.getElem_cons_succ, List.setIfInBounds_toArray, List.set_cons_zero, List.set_cons_succ]
  refine HL_one (i := 2) rfl (by omega) (by kernel_rfl) rfl ?_
  refine wp_enter (f := 31) (args := #[.string s]) (by simp [execOp, resolve]; rfl) ?_
  refine hB.mono ?_
  rintro e w4 ⟨rfl, hI4, hb4⟩
  rw [hd3] at hI4 hb4 ⊢
  have hb34 : Below w3.heap.size w3 w4 := ⟨hb4.os, hb4.tape, hb4.output, hb4.size, hb4.block⟩
  have B4 := B3.trans (hb34.mono (by omega))
  have cm4 := (hb34.cell (p := ⟨Bm, 0, none⟩) (by show Bm < w3.heap.size; omega)).trans cm3
  have cs4 := (hb34.cell (p := ⟨Bs, 0, none⟩) (by show Bs < w3.heap.size; omega)).trans cs3
  have hs4 := hb34.size
  have hMs := hMw.size
  obtain ⟨base, hbase⟩ : ∃ base, base = w3.heap.size := ⟨_, rfl⟩
  rw [← hbase] at hI4 hb34 hs4 s3 ⊢
  have HBS : Hid (base = w3.heap.size) := hbase
  have hM4 : Below wM.heap.size wM w4 := hMw.trans (B4.mono hMs)
  have HN := newRow_any base mg base lo (some ⟨base, 0, none⟩) s.size s.size (byJ s) ws ms A B C w4 hs (.inr ⟨rfl, hI4, Nat.le_refl _⟩) (hM.below hM4) (fun k _ => by have := byJ_range s k; unfold W64; omega) hs4
  refine ⟨_, rfl, ⟨cm4, cs4⟩, ?_⟩
  simp only [Act.put, List.getElem_toArray, List.getElem_cons_zero, List.getElem_cons_succ, List.setIfInBounds_toArray, List.set_cons_zero, List.set_cons_succ]
  refine HL_one (i := 3) rfl (by omega) (by kernel_rfl) rfl ?_
  refine wp_enter (f := 30) (args := #[.pointer (some ⟨mg, 0, none⟩), .slice (some ⟨base, 0, none⟩) s.size s.size]) (by simp [execOp, resolve]; rfl) ?_
  refine HN.mono ?_
  rintro e w5 ⟨r, ib', cg, cb, hg, hv, H, rfl, hR5, hib, hlt, hH5, hC5, hl5, hb5⟩
  have cm5 := (hb5.cell (p := ⟨Bm, 0, none⟩) (by show Bm < w4.heap.size; omega)).trans cm4
  have cs5 := (hb5.cell (p := ⟨Bs, 0, none⟩) (by show Bs < w4.heap.size; omega)).trans cs4
  have B5 := B4.trans (hb5.mono (by omega))
  have B35 : Below base w3 w5 := hb34.trans (hb5.mono hs4)
  have hs5 := hb5.size
  clear HN hB hI4
  refine ⟨_, rfl, ⟨cm5, cs5⟩, ?_⟩
  simp only [Act.put, List.getElem_toArray, List.getElem_cons_zero, List.getElem_cons_succ, List.setIfInBounds_toArray, List.set_cons_zero, List.set_cons_succ]
  refine ⟨by kernel_rfl, ?_⟩
  simp only [List.drop_succ_cons, List.drop_zero]
  have HJ := callsIn_wide.1 (joins_in 1 r w5)
  go_wp2_with fail
  refine HJ.mono ?_
  rintro e w6 ⟨rfl, hw6⟩
  clear HJ cm3 cs3 cm4 cs4 cm5 cs5
  have hb6 : Below w5.heap.size w5 w6 := by rw [hw6]; exact (Below.refl _ w5).alloc (Nat.le_refl _) _
  have s6 : w6.heap.size = w5.heap.size + 1 := by rw [hw6]; simp
  have hx6 : w6.heap[w5.heap.size]? = some (.cells #[.pointer (some ⟨r, 0, none⟩)] 76 (0, 0)) := by rw [hw6]; exact heap_alloc_new w5 _
  clear hw6
  obtain ⟨z, hz⟩ : ∃ z, z = w5.heap.size := ⟨_, rfl⟩
  have HZ : Hid (z = w5.heap.size) := hz
  rw [← hz] at s6 hx6 ⊢
  have B6 : Below W.heap.size W w6 := B5.trans (hb6.mono (by omega))
  have B36 : Below base w3 w6 := B35.trans (hb6.mono (by omega))
  have hcn : CH.cntG (CH.inn0 s.size) s.size = s.size := CH.cnt_all (Nat.le_refl _)
  have hh6 : r < z + 1 ∧ ib' < z + 1 ∧ cg < z + 1 ∧ cb < z + 1 ∧ hg < z + 1 := by omega
  have hR6 := hR5.below hb6
  have hM6 : Below wM.heap.size wM w6 := hMw.trans (B6.mono hMs)
  have hbz : base ≤ z := by omega
  have hG := joins_G (n0 - 1) (by omega) z base (z + 1) r mg ib' cg cb hg lo (some ⟨base, 0, none⟩) s.size s.size hv (CH.inn0 s.size, byJ s) H ws ms A B C wM hMI hM (by omega) hib hh6 (by omega) (by omega) w6 (by omega) hx6 hM6 (by rw [hcn]; exact hR6) (fun k _ => by have := byJ_range s k; show W64 (byJ s k); unfold W64; omega) hH5 hC5 (by rw [hcn]; omega)
  have yb6 := boxed_below yb3 B36 (by omega)
  have sb6 := boxed_below sb3 B36 (by omega)
  have hF6 : FenAt w6 fb s.size (fun _ => true) := (B36.block fb (by omega)).trans hF3
  have hMf : wM.heap.size ≤ W.heap.size := hMs
  clear hR6 hR5 hx6 hC5 hl5 hb5 hb6 B35 B5 B4 B3 B2 hb4 hb34 hb3 hb2 b1 yb3 sb3 hF3 hz hbase hd3 hib hH5
  have hsz : s.size ≤ 1048576 := hs
  have hbb : B0 ≤ base := by omega
  have hfb0 : B0 ≤ fb ∧ fb < base := by omega
  have hsb0 : B0 ≤ sb ∧ sb < base ∧ sb ≠ fb := by omega
  have hyb0 : W.heap.size < base ∧ W.heap.size ≠ fb ∧ W.heap.size ≠ sb := by omega
  have hJ6 : J (z + 3) [] w6 := hJ _ _ _ _ (h0 (z + 3) (by omega)) (by rw [hB0]; exact RlS.of_below B6 (Nat.le_refl _))
  have hM0b : wM.heap.size ≤ fb := by omega
  have HB0 : Hid (B0 = W.heap.size) := hB0
  go_wp2_with fail
  gi_wp2_with fail
  refine wpIn_rangeFunc_G2 rfl (by omega) (gf := 56) (lb := #[.pointer (some ⟨z, 0, none⟩)]) rfl trivial (enters_of Tryd.func56 (by kernel_rfl) rfl) hG
    (fun q A B k o _ hrl hk hk2 ho hc => hrl.block k o (by omega) ho (fun ⟨_, _, e⟩ => by rw [e] at hc; cases hc))
    (fun xs A o o' h ho hc => ⟨h.1, by
      obtain ⟨hv, H, h2⟩ := h.2
      exact ⟨hv, H, h2.putObj (by omega) hh6 ho hc⟩⟩) (fun h k => h.trans k) (fun W o o' h ho _ => KpP.putObj W _ o o' h ho (by omega)) (Below.refl _ _) (fun _ => rfl)
    (fun q pre U => ∃ st, JS ms (byL s) st (vwJ (stJ (CH.inn0 s.size, byJ s) pre).1 s.size (stJ (CH.inn0 s.size, byJ s) pre).2) ∧ J (z + 3) st U ∧ (∃ S, FenAt U fb s.size S ∧ ∀ y, y < s.size → S y = (stJ (CH.inn0 s.size, byJ s) pre).1 y) ∧ Boxed U W.heap.size 79 (.func (.yield lp) #[] #[]) ∧ Boxed U sb 80 (.slice (some ⟨fb, 0, none⟩) (s.size + 1) (s.size + 1)))
    (fun c q pre U => c = .ret ∧ base ≤ U.heap.size ∧ ∃ st, Jx (z + 3) st U)
    ?own1 ?own2 ?own3 ?own4 ?start actP pO (fun _ => rfl) ?assign ?body ?done ?stop
  case own1 =>
    rintro q pre U U' row ⟨st, h1, h2, ⟨S, h3, h4⟩, h5, h6⟩ hg hr
    have hUs : base ≤ U.heap.size ∨ True := .inr trivial
    have hk : ∀ k o, k < base → U.heap[k]? = some o → U'.heap[k]? = some o := fun k o hk ho => (hg.block k (Array.getElem?_eq_some_iff.1 ho).1 (fun e => by have := (hr k e.symm).1; omega)).trans ho
    refine ⟨st, h1, hJ _ _ _ _ h2 ⟨hg.os, hg.tape, hg.output, hg.size, fun k hkk => ?_, fun k o _ ho _ hc => (hg.block k (Array.getElem?_eq_some_iff.1 ho).1 (fun e => by
      obtain ⟨_, o', ho', hc'⟩ := hr k e.symm
      rw [ho] at ho'; cases ho'; rw [hc] at hc'; cases hc')).trans ho⟩, ⟨S, hk _ _ (by omega) h3, h4⟩, hk _ _ (by omega) h5, hk _ _ (by omega) h6⟩
    exact hg.block k (by have := h6.lt; have := h3; omega) (fun e => by have := (hr k e.symm).1; omega)
  case own2 =>
    rintro c q pre U U' row ⟨h1, hz, st, h2⟩ hg hr
    exact ⟨h1, Nat.le_trans hz hg.size, st, hJx _ _ _ _ h2 (RlS.of_grown hg (by omega) (fun r e => ⟨by have := (hr r e).1; omega, .inr (hr r e).2⟩))⟩
  case own3 =>
    rintro q pre X Y ⟨st, h1, h2, ⟨S, h3, h4⟩, h5, h6⟩ hXY
    have hk : ∀ k o, k < base → X.heap[k]? = some o → Y.heap[k]? = some o := fun k o hk ho => (hXY.old k hk).trans ho
    exact ⟨st, h1, hJ _ _ _ _ h2 (hXY.toS hbb (by omega)), ⟨S, hk _ _ (by omega) h3, h4⟩, hk _ _ (by omega) h5, hk _ _ (by omega) h6⟩
  case own4 =>
    rintro c q pre X Y ⟨h1, hz, st, h2⟩ hXY
    exact ⟨h1, Nat.le_trans hz hXY.size, st, hJx _ _ _ _ h2 (hXY.toS hbb (by omega))⟩
  case start =>
    intro q _
    refine ⟨[], by rw [show stJ (CH.inn0 s.size, byJ s) [] = (CH.inn0 s.size, byJ s) from rfl, vw_by]; exact JS.nil, hJ6, ⟨_, hF6, fun y hy => ?_⟩, yb6, sb6⟩
    show true = CH.inn0 s.size y
    unfold CH.inn0
    exact (decide_eq_true hy).symm
  case assign =>
    rintro q pre x U K ⟨st, h1, h2, ⟨S, h3, h4⟩, h5, h6⟩ _ hq hK
    have hb : Below U.heap.size U (U.alloc (pO x)) := (Below.refl _ U).alloc (Nat.le_refl _) _
    have hlt := h6.lt
    unfold HQ.valE
    gi_wp2
    exact hK _ _ U.heap.size ((KeepsOthers.alloc _ _).from _) (KpP.of_below hb (by omega)) ⟨st, h1, hJ _ _ _ _ h2 (RlS.of_below hb (by omega)), ⟨S, h3.below hb, h4⟩, boxed_below_s h5 hb, boxed_below_s h6 hb⟩ (heap_alloc_new U _) (by unfold actP HQ.valE; simp)
  case body =>
    rintro q pre x b U ⟨rr, hrr⟩ hq1 hq2 ⟨st, h1, h2, ⟨S, h3, h4⟩, h5, h6⟩ hbo hok
    obtain ⟨p, k, qn, e1, e2, e3, hp, hqn, hpq, hSq, hcut, ep, ek⟩ := hok.step
    obtain ⟨g1, g2⟩ := hok.isN
    have hsnoc := stJ_snoc (CH.inn0 s.size, byJ s) pre x
    obtain ⟨s0, hs0⟩ : ∃ s0, s0 = stJ (CH.inn0 s.size, byJ s) pre := ⟨_, rfl⟩
    rw [← hs0] at h1 h4 hSq hcut g1 g2 hsnoc
    rw [ep, ek] at g1
    rw [ep] at g2
    have hlt6 := h6.lt
    have hlt3 : fb < U.heap.size := (Array.getElem?_eq_some_iff.1 h3).1
    unfold pO at hbo
    rw [e1, e2, e3] at hbo
    have HC := fcut_any fb s.size qn (s.size + 1) S U hsz hqn (by rw [h4 qn hqn]; exact hSq) h3
    have p3 := cell_of_block hbo 3
    simp only [List.getElem?_toArray, List.getElem?_cons_zero, List.getElem?_cons_succ] at p3
    have k6 := h6.cell
    have hbf : b ≠ fb := fun e => by
      subst e
      rw [show U.heap[b]? = _ from h3] at hbo
      injection hbo with hbo
      injection hbo with _ ht _
      exact absurd ht (by decide)
    have hbl : b < U.heap.size := (Array.getElem?_eq_some_iff.1 hbo).1
    simp only [actP, List.setIfInBounds_toArray, List.set_cons_succ, List.set_cons_zero]
    clear hs0 hok
    gi_wp2_with fail
    refine ⟨trivial, fun _ => by omega, (CallsIn.inRound _ (callsIn_wide.2 HC)).mono ?_⟩
    rintro e U1 ⟨rfl, hF1, hgr⟩
    have hb1 := (hgr.block b hbl (fun e => by cases e; exact hbf rfl)).trans hbo
    have y1 : Boxed U1 W.heap.size 79 (.func (.yield lp) #[] #[]) := (hgr.block _ (by omega) (fun e => by have := Option.some.inj e; omega)).trans h5
    have z1 : Boxed U1 sb 80 (.slice (some ⟨fb, 0, none⟩) (s.size + 1) (s.size + 1)) := (hgr.block _ (by omega) (fun e => by have := Option.some.inj e; omega)).trans h6
    have hJ1 : J (z + 3) st U1 := hJ _ _ _ _ h2 (RlS.of_grown hgr (by omega) (fun r e => by cases e; exact ⟨by omega, .inl (by omega)⟩))
    have hgz := hgr.size
    have cy := y1.cell
    have cz := z1.cell
    have p0 := cell_of_block hb1 0
    have p2 := cell_of_block hb1 2
    simp only [List.getElem?_toArray, List.getElem?_cons_zero, List.getElem?_cons_succ] at p0 p2
    have ky := cell_regrown (w := U1) cy
    have kz := cell_regrown (w := U1) cz
    have k0 := cell_regrown (w := U1) p0
    have k2 := cell_regrown (w := U1) p2
    have hagree : ∀ y, y < p → (fun y => if y = qn then false else S y) y = s0.1 y := fun y hy => by
      simp only
      rw [if_neg (by omega), h4 y (by omega)]
    have HA : ∀ U', Below U1.heap.size U1 U' → Calls Tryd.prog 37 #[.slice (some ⟨fb, 0, none⟩) (s.size + 1) (s.size + 1), .int .i64 (p : Nat)] U' fun e w' => e = .returned (.int .i64 (CH.cntG s0.1 p : Nat)) ∧ Below U'.heap.size U' w' := fun U' hb => by
      refine (ahead_any fb s.size p (s.size + 1) _ U' hsz (by omega) (hF1.below hb)).mono ?_
      rintro e w' ⟨rfl, rfl⟩
      rw [cntB_cnt hagree]
      exact ⟨rfl, Below.refl _ _⟩
    clear HC p3 k6 cy cz p0 p2
    gi_wp2_with fail
    refine wpIn_region_quiet_tail (C := fun w' => ∃ p : Regrown, w' = grow (redrawn U1 p.d) p.os) 8 (by kernel_rfl) (by kernel_rfl) (by kernel_rfl) ⟨⟨_, #[]⟩, by rw [grow_empty]; rfl⟩ ?_
    simp only [List.take_succ_cons, List.take_zero, List.drop_succ_cons, List.drop_zero]
    repeat (gi_big_quiet_step (fail))
    refine wpQuietIn_step (fun _ _ _ _ => trivial) (fun K hK => ?_)
    go_simp
    apply Exists.intro
    refine ⟨fun _ => ?_, hK _ ?_⟩
    · exact ⟨fun _ => by omega, CallsIn.regrown_of (CallsIn.inRound _ (callsIn_wide.2 (HA _ (below_regrown _ _ _))))⟩
    clear hK K
    repeat (gi_big_quiet_step (fail))
    refine wpQuietIn_nil ?_
    intro W5 hw'
    have hb5 : Below U1.heap.size U1 W5 := by
      obtain ⟨⟨dq, osq⟩, rfl⟩ := hw'
      exact below_regrown _ _ _
    have hb5z := hb5.size
    clear hw' ky kz k0 k2 HA
    have hJ5 := hJ _ _ _ _ hJ1 (RlS.of_below hb5 (by omega))
    have y5 := boxed_below_s y1 hb5
    have z5 := boxed_below_s z1 hb5
    have hF5 := hF1.below hb5
    obtain ⟨fn, tmps, assign, body, hy, hRd⟩ := hY (z + 3) st (k, CH.cntG s0.1 p) W5 (by omega) (by omega) hJ5 ⟨_, _, h1, g1⟩
    unfold valS at hy
    dsimp only at hy
    gi_wp2_with fail
    refine ⟨fun _ => by omega, (roundIn_any hRd).mono ?_⟩
    have hcl : ∀ k' o, B0 ≤ k' → o.isCells = true → U1.heap[k']? = some o → W5.heap[k']? = some o := fun k' o _ _ ho => (hb5.block k' (Array.getElem?_eq_some_iff.1 ho).1).trans ho
    have hkf5 : KeepsFrom w6.heap.size U W5 := by
      have k1 : KeepsFrom w6.heap.size U U1 := KeepsFrom.of_grownBy hgr (fun j e => by cases e; omega)
      exact kf_chain k1 ⟨hb5.size, fun k' o _ ho _ => (hb5.block k' (Array.getElem?_eq_some_iff.1 ho).1).trans ho⟩
    have hkp5 : KpP wM.heap.size base (z + 1) U W5 := (KpP.of_grown hgr (by omega) (fun r e => by
      cases e
      refine ⟨by omega, .inl (by omega), fun o ho ⟨_, _, he⟩ => ?_⟩
      rw [show U.heap[fb]? = _ from h3] at ho
      rw [← Option.some.inj ho] at he
      injection he with _ ht _
      exact absurd ht (by decide))).trans (KpP.of_below hb5 (by omega))
    rintro e W6 ⟨hkf, ⟨rfl, hj6, hk6⟩ | ⟨rfl, hjx⟩⟩
    · have y6 := hk6.cells _ _ (.inl (by omega)) rfl y5
      have z6 := hk6.cells _ _ (.inl (by omega)) rfl z5
      have f6 := hk6.cells _ _ (.inl (by omega)) rfl hF5
      clear hy hRd
      gi_wp2_with fail
      refine ⟨kf_chain hkf5 (kf_higher hkf (by omega)), hkp5.trans (hk6.toP hbb), st ++ [(k, CH.cntG s0.1 p)], ?_, hj6, ⟨_, f6, fun y hy => ?_⟩, y6, z6⟩
      · rw [hsnoc, g2]
        exact JS.snoc h1 g1
      · rw [hsnoc, hcut]
        show (if y = qn then false else S y) = CH.cutP s0.1 qn y
        unfold CH.cutP
        rw [h4 y hy]
    · clear hy hRd
      gi_wp2_with fail
      have := hkf.size
      exact ⟨kf_chain hkf5 (kf_higher hkf (by omega)), rfl, by omega, _, hjx⟩
  case done =>
    rintro D q ys U rfl hq ⟨hN, hv', H', hRW⟩ ⟨st, h1, h2, _, _, h6⟩ hDk
    have hlt6 := h6.lt
    gi_wp2_with fail
    refine ⟨by simp, .inl ⟨_, _, rfl, run_takeDeferred hDk, ?_⟩⟩
    exact ⟨_, results_none rfl _ _ _, ⟨_, rfl⟩, z + 3, by omega, .inl ⟨st, ⟨_, h1.fin hN.noN⟩, hJ _ _ _ _ h2 (RlS.of_grown (grownBy_putObj' U _ _) (by omega) (fun r e => by cases e; exact ⟨by omega, .inr ⟨_, hDk, rfl⟩⟩))⟩⟩
  case stop =>
    rintro D q c pre U rfl hq hp ⟨rfl, hUs, st, hjx⟩ hDk
    gi_wp2_with fail
    refine ⟨by simp, .inl ⟨_, _, rfl, run_takeDeferred hDk, ?_⟩⟩
    exact ⟨_, results_none rfl _ _ _, ⟨_, rfl⟩, z + 3, by omega, .inr ⟨st, trivial, hJx _ _ _ _ hjx (RlS.of_grown (grownBy_putObj' U _ _) (by omega) (fun r e => by cases e; exact ⟨by omega, .inr ⟨_, hDk, rfl⟩⟩))⟩⟩
/-- bpe.Steps: its contract, for a range over it. -/
theorem steps_G (n0 : Nat) (hn0 : 4 ≤ n0) (Bm Bs mg lo : Nat) (s : ByteArray) (hs : s.size ≤ 1048576) (ws : List ByteArray) (ms : List Mg) (A B C : List Sp) (wM : World)
    (hMI : ∀ l r k i, mergeM ms l r = some (k, i) → W64 i) (hM : ModelAt wM lo mg ws ms A B C) (w : World) (hMw : Below wM.heap.size wM w)
    (hBm : Boxed w Bm 31 (.pointer (some ⟨mg, 0, none⟩))) (hBs : Boxed w Bs 9 (.string s)) :
    SeqG Fence.wide n0 Tryd.prog 33 #[.pointer (some ⟨Bm, 0, none⟩), .pointer (some ⟨Bs, 0, none⟩)] (fun x : Nat × Nat => #[valS x]) RlS (fun B0 => KpS wM.heap.size B0) (fun pre x => ∃ cur i, JS ms (byL s) pre cur ∧ IsN ms cur x.1 x.2 i) (fun xs _ => ∃ l, JR ms (byL s) xs l) (fun _ => True) w := by
  intro l J Jx W hW hJ hJx hY h0
  exact steps1_in n0 hn0 l Bm Bs W.heap.size mg lo s hs ws ms A B C wM J Jx hMI hM W rfl (hMw.trans (hW.mono hMw.size)) hJ hJx hY h0 ((hW.block Bm hBm.lt).trans hBm) ((hW.block Bs hBs.lt).trans hBs)
end Go.Proofs.YtjbdhakogbolkaaDoor
end
section
/- tesseraref10.Bytes: its contract. -/
namespace Go.Proofs.YtjbdhakogbolkaaDoor
open Go.RowKit Go.Joins Go.Sort
set_option linter.unusedVariables false
set_option linter.unusedSimpArgs false
set_option maxRecDepth 100000
theorem byL_take (s : ByteArray) (k : Nat) (h : k < s.size) : (byL s).take (k + 1) = (byL s).take k ++ [((s[k]).toNat : Int)] := by
  rw [List.take_add_one]
  congr 1
  unfold byL
  rw [List.getElem?_map, Array.getElem?_toList]
  have : s.data[k]? = some s[k] := by
    rw [Array.getElem?_eq_getElem (by exact h)]
    rfl
  rw [this]
  rfl
theorem RowN.grown {A B : World} {z : Nat} {v : Value} {l : List Int} (h : RowN A z v l) (hg : A.grownBy B v.ownBlock) (hz : z ≤ A.heap.size) : Below z A B :=
  ⟨hg.os, hg.tape, hg.output, hg.size, fun k hk => hg.block k (by omega) (fun e => by
    rcases h.2 with ⟨rfl, _⟩ | ⟨b, cap, cur, rfl, hb, _⟩
    · cases e
    · have e2 : k = b := Option.some.inj e
      omega)⟩
set_option maxHeartbeats 1000000 in
theorem refBytes_any (s : ByteArray) (w : World) (hs : s.size ≤ 1048576) :
    Calls Tryd.prog 18 #[.string s] w fun e w' => ∃ v, e = .returned v ∧ RowN w' w.heap.size v (byL s) ∧ Below w.heap.size w w' := by
  obtain ⟨z, hz⟩ : ∃ z, z = w.heap.size := ⟨_, rfl⟩
  have HZ : Hid (z = w.heap.size) := hz
  go_enter Tryd.func18, Tryd.ntmps18
  go_wp2_with fail
  clear hz
  go_loopw [3, 4] (fun v3 v4 wr => ∃ (k : Nat) (lv : Value), k ≤ s.size ∧ v4 = .int .i64 (k : Nat) ∧ lv = v3 ∧ RowN wr z lv ((byL s).take k) ∧ Below z w wr) (fun _ v _ => s.size - (intOf v).toNat)
  case atStart => exact ⟨0, _, Nat.zero_le _, rfl, rfl, World.ownsRow_nil _ _ _ _, Below.refl _ _⟩
  case round =>
    obtain ⟨k, lv, hk, rfl, hlv, hN, hB⟩ := hrel
    subst hlv
    by_cases hlt : k < s.size
    · have d : decide ((k : Int) < (s.size : Int)) = true := decide_eq_true (by omega)
      have hi : 0 ≤ (k : Int) ∧ (k : Int) < (s.size : Int) := by omega
      have hwr : wrap64 ((s[k]).toNat : Int) = ((s[k]).toNat : Int) := by
        have := (s[k]).toNat_lt
        unfold wrap64
        omega
      have HBT : Hid ((byL s).take (k + 1) = (byL s).take k ++ [((s[k]).toNat : Int)]) := byL_take s k hlt
      have hb1 : Below wr.heap.size wr (wr.alloc (.cells #[.int .i64 ((s[k]).toNat : Int)] 3)) := (Below.refl _ wr).alloc (Nat.le_refl _) _
      have hzs := hB.size
      have hzw := HZ.out
      obtain ⟨v2, w2, hr2, hN2, hg2, -⟩ := run_pushN (wr.alloc (.cells #[.int .i64 ((s[k]).toNat : Int)] 3)) z lv _ ((s[k]).toNat : Int) wr.heap.size (hN.below hb1) (heap_alloc_new wr _) (by simp; omega) (by rw [List.length_take]; omega)
      have hbb : Below z w w2 := (hB.trans (hb1.mono (by omega))).trans ((hN.below hb1).grown hg2 (by simp; omega))
      clear hzs hzw
      go_wp2_with (at_builtin; refine wpList_append_run rfl (.tmp 11) (.tmp 16) 34 34 rfl _ _ rfl rfl _ w2 hr2 ?_; clear hr2)
      exact ⟨⟨k + 1, _, by omega, by simp, rfl, by rw [HBT.out]; exact hN2, hbb⟩, by simp only [intOf]; omega⟩
    · obtain rfl : k = s.size := by omega
      have d : decide ((s.size : Int) < (s.size : Int)) = false := decide_eq_false (by omega)
      have HT : Hid ((byL s).take s.size = byL s) := List.take_of_length_le (by rw [byL_length]; exact Nat.le_refl _)
      go_wp2_with fail
      go_ret
      rw [← HZ.out]
      rw [HT.out] at hN
      exact ⟨_, rfl, hN, hB⟩
end Go.Proofs.YtjbdhakogbolkaaDoor
end
