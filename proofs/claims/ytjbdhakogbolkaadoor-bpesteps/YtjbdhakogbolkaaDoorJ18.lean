import Derived.Test.YtjbdhakogbolkaaDoorJ17
import Derived.Test.YtjbdhakogbolkaaDoorJ9
import Derived.Test.YtjbdhakogbolkaaDoorJ13
import Derived.Laws.CopyOwn
import Derived.Lib.SmallJoins
import Derived.Deep.DeepMust
import Derived.Test.YtjbdhakogbolkaaDoorJ5
section
/- bpe.Merge, bpe.Joined; tesserabook.Same of ints; the law's few: their contracts. -/
namespace Go.Proofs.YtjbdhakogbolkaaDoor
open Go.RowKit Go.Joins Go.Sort
set_option linter.unusedVariables false
set_option linter.unusedSimpArgs false
set_option maxRecDepth 100000
theorem mergeM_W64 {ms : List Mg} (h : MWf ms) : ∀ l r k i, mergeM ms l r = some (k, i) → W64 i := by
  intro l r k i hm
  unfold mergeM at hm
  cases hr : rankM ms l r with
  | none => rw [hr] at hm; cases hm
  | some k' =>
    rw [hr] at hm
    simp only [Option.bind_some] at hm
    cases hx : ms[k']? with
    | none => rw [hx] at hm; cases hm
    | some x =>
      rw [hx] at hm
      simp only [Option.map_some, Option.some.injEq, Prod.mk.injEq] at hm
      obtain ⟨_, rfl⟩ := hm
      exact (h k' x hx).2.2
/-- A text's bytes, as a list of ids. -/
def byL (s : ByteArray) : List Int := s.data.toList.map fun c => (c.toNat : Int)
theorem byL_length (s : ByteArray) : (byL s).length = s.size := by unfold byL; rw [List.length_map, Array.length_toList]; rfl
theorem byJ_getI (s : ByteArray) : byJ s = getI (byL s) := by
  funext i
  unfold byJ getI byL
  rw [List.getElem?_map, Array.getElem?_toList]
theorem vw_by (s : ByteArray) : vwJ (CH.inn0 s.size) s.size (byJ s) = byL s := by
  have := vw_getI (byL s)
  rw [byL_length, ← byJ_getI] at this
  exact this
theorem RowN.ins {w : World} {base : Nat} {v : Value} {l : List Int} (h : RowN w base v l) : ∃ a c, v = .slice a l.length c ∧ CH.INS w a l := by
  obtain ⟨ia, ic, ib, rfl, h1⟩ := h.ids
  refine ⟨ia, ic, rfl, ?_⟩
  rcases h1 with h1 | ⟨rfl, h2, _⟩
  · exact .inl (List.length_eq_zero_iff.1 h1)
  · refine .inr ⟨ib, 0, rfl, fun i x hx => ?_⟩
    have hi := (List.getElem?_eq_some_iff.1 hx).1
    rw [Nat.zero_add, h2.at' hi]
    unfold getI
    rw [hx]
    rfl
theorem INS.below' {w w' : World} {a : Option Addr} {l : List Int} (h : CH.INS w a l) (hb : Below w.heap.size w w') : CH.INS w' a l := by
  rcases h with h | ⟨b, off, rfl, hc⟩
  · exact .inl h
  · exact .inr ⟨b, off, rfl, fun i x hx => (hb.cell (World.block_lt_of_cell? w _ (hc i x hx))).trans (hc i x hx)⟩
theorem INS.at' {w : World} {a : Option Addr} {l : List Int} (h : CH.INS w a l) {i : Nat} {r : Int} (hr : l[i]? = some r) : ∃ b off, a = some ⟨b, off, none⟩ ∧ w.cell? ⟨b, off + i, none⟩ = some (.int .i64 r) := by
  rcases h with h | ⟨b, off, rfl, hc⟩
  · rw [h] at hr; simp at hr
  · exact ⟨b, off, rfl, hc i r hr⟩
set_option maxHeartbeats 800000 in
theorem sameN_any (a b : Option Addr) (ca cb : Nat) (l : List Int) (w : World) (hlen : l.length ≤ 9223372036854775807) (ha : CH.INS w a l) (hb : CH.INS w b l) :
    Calls Tryd.prog 13 #[.slice a l.length ca, .slice b l.length cb] w fun e w' => e = .returned (.bool true) ∧ Below w.heap.size w w' := by
  obtain ⟨n, hn⟩ : ∃ n, n = l.length := ⟨_, rfl⟩
  have HN : Hid (n = l.length) := hn
  rw [← hn] at hlen ⊢
  clear hn
  have d0 : (((n : Int)) != (n : Int)) = false := by simp
  go_enter Tryd.func13, Tryd.ntmps13
  go_wp2_with fail
  go_loopw [5] (fun i wr => ∃ k : Nat, k ≤ n ∧ i = .int .i64 k ∧ Below w.heap.size w wr) (fun i _ => n - (intOf i).toNat)
  case atStart => exact ⟨0, Nat.zero_le _, rfl, Below.refl _ _⟩
  case round =>
    obtain ⟨k, hk, rfl, hbr⟩ := hrel
    by_cases hlt : k < n
    · have hkl : k < l.length := by rw [← HN.out]; exact hlt
      obtain ⟨x, hx⟩ : ∃ x, l[k]? = some x := ⟨l[k], List.getElem?_eq_getElem hkl⟩
      obtain ⟨ba, oa, rfl, a0⟩ := INS.at' (INS.below' ha hbr) hx
      obtain ⟨bb, ob, rfl, b0⟩ := INS.at' (INS.below' hb hbr) hx
      have d1 : decide ((k : Int) < (n : Int)) = true := decide_eq_true (by omega)
      have d2 : (x != x) = false := by simp
      have bi : 0 ≤ (k : Int) ∧ (k : Int) < (n : Int) := by omega
      clear ha hb hkl hx
      go_wp2_with fail
      go_quiet (fail)
      go_wp2_with fail
      exact ⟨⟨k + 1, by omega, by simp, below_drewN hbr _⟩, by simp only [intOf]; omega⟩
    · have hkn : k = n := by omega
      subst hkn
      have d1 : decide ((k : Int) < (k : Int)) = false := decide_eq_false (by omega)
      clear ha hb
      go_wp2_with fail
      go_ret
      exact ⟨rfl, hbr⟩
/-- A text's first n bytes. -/
def fewF (s : ByteArray) (n : Nat) : ByteArray := if n < s.size then s.extract 0 n else s
theorem fewF_size (s : ByteArray) (n : Nat) : (fewF s n).size ≤ n := by
  unfold fewF
  split
  · rw [ByteArray.size_extract]; omega
  · omega
theorem few10_any (s : ByteArray) (n : Nat) (w : World) : Calls Tryd.prog 16 #[.string s, .int .i64 (n : Nat)] w fun e w' => e = .returned (.string (fewF s n)) ∧ w' = w := by
  by_cases h : n < s.size
  · have hf : fewF s n = s.extract 0 n := by unfold fewF; rw [if_pos h]
    rw [hf]
    have d : decide ((n : Int) < (s.size : Int)) = true := decide_eq_true (by omega)
    have hle : 0 ≤ (n : Int) ∧ (n : Int) ≤ (s.size : Int) := by omega
    go_enter Tryd.func16, Tryd.ntmps16
    go_wp2_with fail
    go_ret
    exact ⟨rfl, rfl⟩
  · have hf : fewF s n = s := by unfold fewF; rw [if_neg h]
    rw [hf]
    have d : decide ((n : Int) < (s.size : Int)) = false := decide_eq_false (by omega)
    go_enter Tryd.func16, Tryd.ntmps16
    go_wp2_with fail
    go_ret
    exact ⟨rfl, rfl⟩
theorem bmerge_no (p : Option Addr) (s : ByteArray) (w : World) (h : refuF p s.size ≠ 0) :
    Calls Tryd.prog 10 #[.pointer p, .string s] w fun e w' => e = .returned (.tuple #[.slice none 0 0, .int .i64 (refuF p s.size)]) ∧ w' = w := by
  have HR := refusal_any p s.size w
  obtain ⟨y, hy⟩ : ∃ y, y = refuF p s.size := ⟨_, rfl⟩
  rw [← hy] at h HR ⊢
  have d : (y != 0) = true := by simpa using h
  clear hy h
  go_enter Tryd.func10, Tryd.ntmps10
  go_wp2_with fail
  refine HR.mono ?_
  rintro e w1 ⟨rfl, he⟩
  obtain rfl := he.symm
  clear HR
  go_wp2_with fail
  exact bodyPost_ret (v := .tuple #[.slice none 0 0, .int .i64 y]) (by simp [results, Tryd.results10, go_sem]) rfl ⟨rfl, rfl⟩
set_option maxHeartbeats 1000000 in
theorem bmerge_any (mg lo : Nat) (s : ByteArray) (ws : List ByteArray) (ms : List Mg) (A B C : List Sp) (w : World) (hs : s.size ≤ 1048576) (hMI : ∀ l r k i, mergeM ms l r = some (k, i) → W64 i) (hM : ModelAt w lo mg ws ms A B C) :
    Calls Tryd.prog 10 #[.pointer (some ⟨mg, 0, none⟩), .string s] w fun e w' => ∃ v l st, e = .returned (.tuple #[v, .int .i64 0]) ∧ RowN w' w.heap.size v l ∧ JR ms (byL s) st l ∧ Below w.heap.size w w' ∧ v.ownBlock ≠ none := by
  have HR := refusal_any (some ⟨mg, 0, none⟩) s.size w
  rw [show refuF (some ⟨mg, 0, none⟩) s.size = 0 by unfold refuF; rw [if_neg (by simp), if_neg (by omega)]] at HR
  have HB := bytesOf_any s w hs
  have hlow : lo ≤ w.heap.size := by
    obtain ⟨a0, c0, a1, c1, a2, c2, a3, c3, a4, c4, gt, gr, h1, h2, h3, h4⟩ := hM
    have := (Array.getElem?_eq_some_iff.1 h3).1
    omega
  go_enter Tryd.func10, Tryd.ntmps10
  go_wp2_with fail
  refine HR.mono ?_
  rintro e w1 ⟨rfl, he⟩
  obtain rfl := he.symm
  clear HR
  go_wp2_with fail
  refine HB.mono ?_
  rintro e w2 ⟨rfl, hI2, hb2⟩
  clear HB
  have HN := newRow_any w.heap.size mg w.heap.size lo (some ⟨w.heap.size, 0, none⟩) s.size s.size (byJ s) ws ms A B C w2 hs (.inr ⟨rfl, hI2, Nat.le_refl _⟩) (hM.below hb2) (fun k _ => by have := byJ_range s k; unfold W64; omega) hb2.size
  go_wp2_with fail
  refine HN.mono ?_
  rintro e w3 ⟨r, ib', cg, cb, hg, hv, H, rfl, hR3, hib, hlt, hH3, hC3, hl3, hb3⟩
  clear HN
  have hcn : CH.cntG (CH.inn0 s.size) s.size = s.size := CH.cnt_all (Nat.le_refl _)
  have B3 := hb2.trans (hb3.mono hb2.size)
  have HJ := bjoined_any w.heap.size r mg ib' cg cb hg lo _ _ s.size hv (CH.inn0 s.size, byJ s) H ws ms A B C w w3 hMI hM (Nat.le_refl _) hib hlt B3 (by rw [hcn]; exact hR3) (fun k _ => by have := byJ_range s k; show W64 (byJ s k); unfold W64; omega) hH3 hC3 (by rw [hcn]; omega)
  rw [vw_by] at HJ
  have hs3 := B3.size
  clear hR3 hib hlt hH3 hC3 hl3 hb3 hI2 hb2 hcn
  go_wp2_with fail
  refine HJ.mono ?_
  rintro e w4 ⟨v, l, st, rfl, hv4, hj4, hb4, hnb⟩
  clear HJ
  have B4 := B3.trans hb4
  have hv5 : RowN w4 w.heap.size v l := ⟨hv4.1, by
    rcases hv4.2 with h0 | ⟨b, cap, cur, e, hb, rr⟩
    · exact .inl h0
    · exact .inr ⟨b, cap, cur, e, Nat.le_trans hs3 hb, rr⟩⟩
  clear hv4
  go_wp2_with fail
  exact bodyPost_ret (v := .tuple #[v, .int .i64 0]) (by simp [results, Tryd.results10, go_sem]) rfl ⟨v, l, st, rfl, hv5, hj4, B4, hnb⟩
end Go.Proofs.YtjbdhakogbolkaaDoor
end
section
/- A tree of counts (Fenwick's), as mathematics alone. -/
namespace Go.Proofs.YtjbdhakogbolkaaDoor
set_option linter.unusedVariables false
/-- The lowest bit that is set. -/
def lb (i : Nat) : Nat := if h : i = 0 then 0 else if i % 2 = 1 then 1 else 2 * lb (i / 2)
termination_by i
decreasing_by omega
theorem lb_zero : lb 0 = 0 := by rw [lb]; simp
theorem lb_odd (k : Nat) : lb (2 * k + 1) = 1 := by rw [lb, dif_neg (by omega), if_pos (by omega)]
theorem lb_even (k : Nat) : lb (2 * k) = 2 * lb k := by
  by_cases h : k = 0
  · subst h; rw [Nat.mul_zero, lb_zero]
  · rw [lb, dif_neg (by omega), if_neg (by omega), Nat.mul_div_cancel_left k (by omega)]
theorem parity (i : Nat) : ∃ k, i = 2 * k ∨ i = 2 * k + 1 := ⟨i / 2, by omega⟩
theorem lb_pos {i : Nat} (h : 0 < i) : 0 < lb i := by
  induction i using Nat.strongRecOn with
  | ind i ih =>
    obtain ⟨k, rfl | rfl⟩ := parity i
    · have := ih k (by omega) (by omega)
      rw [lb_even]; omega
    · rw [lb_odd]; omega
theorem lb_le (i : Nat) : lb i ≤ i := by
  induction i using Nat.strongRecOn with
  | ind i ih =>
    obtain ⟨k, rfl | rfl⟩ := parity i
    · by_cases h : k = 0
      · subst h; rw [Nat.mul_zero, lb_zero]; exact Nat.le_refl _
      · have := ih k (by omega)
        rw [lb_even]; omega
    · rw [lb_odd]; omega
/-- Between i and the next of its chain no one reaches below i. -/
theorem lb_gap (i : Nat) : ∀ k, i < k → k < i + lb i → i ≤ k - lb k := by
  induction i using Nat.strongRecOn with
  | ind i ih =>
    intro k h1 h2
    obtain ⟨m, rfl | rfl⟩ := parity i
    · by_cases h0 : m = 0
      · subst h0; omega
      · rw [lb_even] at h2
        obtain ⟨q, rfl | rfl⟩ := parity k
        · have := ih m (by omega) q (by omega) (by omega)
          have := lb_le q
          rw [lb_even]; omega
        · rw [lb_odd]; omega
    · rw [lb_odd] at h2; omega
/-- The next of the chain covers what i covers. -/
theorem lb_next (i : Nat) (h : 0 < i) : i + lb i - lb (i + lb i) ≤ i - lb i := by
  induction i using Nat.strongRecOn with
  | ind i ih =>
    obtain ⟨m, rfl | rfl⟩ := parity i
    · have h1 := ih m (by omega) (by omega)
      have h2 := lb_le m
      have h3 := lb_le (m + lb m)
      rw [lb_even, show 2 * m + 2 * lb m = 2 * (m + lb m) from by omega, lb_even]; omega
    · have h2 := lb_pos (i := m + 1) (by omega)
      rw [lb_odd, show 2 * m + 1 + 1 = 2 * (m + 1) from by omega, lb_even]; omega
/-- i counts the place a. -/
def FCov (i a : Nat) : Prop := i - lb i ≤ a ∧ a < i
theorem FCov.first (a : Nat) : FCov (a + 1) a := ⟨by have := lb_pos (i := a + 1) (by omega); omega, by omega⟩
theorem FCov.next {i a : Nat} (h : FCov i a) : FCov (i + lb i) a := by
  have h1 := lb_next i (by have := h.2; omega)
  exact ⟨by have := h.1; omega, by have := h.2; omega⟩
theorem FCov.between {i a k : Nat} (h : FCov i a) (h1 : i < k) (h2 : k < i + lb i) : ¬ FCov k a := fun g => by
  have := lb_gap i k h1 h2
  have := g.1
  have := h.2
  omega
/-- How many of the places from a on, k of them, stand. -/
def cntB (S : Nat → Bool) (a : Nat) : Nat → Nat
  | 0 => 0
  | k + 1 => cntB S a k + if S (a + k) then 1 else 0
theorem cntB_add (S : Nat → Bool) (a k m : Nat) : cntB S a (k + m) = cntB S a k + cntB S (a + k) m := by
  induction m with
  | zero => rfl
  | succ m ih => rw [← Nat.add_assoc, cntB, cntB, ih, Nat.add_assoc a k m]; omega
theorem cntB_cut (S : Nat → Bool) (x a k : Nat) (hx : S x = true) : cntB (fun y => if y = x then false else S y) a k + (if a ≤ x ∧ x < a + k then 1 else 0) = cntB S a k := by
  induction k with
  | zero => rw [if_neg (by omega)]; rfl
  | succ k ih =>
    rw [cntB, cntB, ← ih]
    by_cases h : a + k = x
    · rw [if_pos h, if_neg (c := a ≤ x ∧ x < a + k) (by omega), if_pos (c := a ≤ x ∧ x < a + (k + 1)) (by omega), h, hx]
      simp
    · rw [if_neg h]
      by_cases h2 : a ≤ x ∧ x < a + k
      · rw [if_pos h2, if_pos (c := a ≤ x ∧ x < a + (k + 1)) (by omega)]; omega
      · rw [if_neg h2, if_neg (c := a ≤ x ∧ x < a + (k + 1)) (by omega)]; omega
theorem cntB_all (a k : Nat) : cntB (fun _ => true) a k = k := by
  induction k with
  | zero => rfl
  | succ k ih => rw [cntB, ih]; simp
/-- What the tree holds at i. -/
def fenC (S : Nat → Bool) (i : Nat) : Nat := cntB S (i - lb i) (lb i)
theorem fenC_new (i : Nat) : fenC (fun _ => true) i = lb i := cntB_all _ _
theorem fenC_cut (S : Nat → Bool) (x i : Nat) (hx : S x = true) : fenC (fun y => if y = x then false else S y) i + (if i - lb i ≤ x ∧ x < i then 1 else 0) = fenC S i := by
  have := cntB_cut S x (i - lb i) (lb i) hx
  rw [Nat.sub_add_cancel (lb_le i)] at this
  exact this
/-- One step of 'ahead'. -/
theorem fenC_ahead (S : Nat → Bool) (i : Nat) : cntB S 0 i = fenC S i + cntB S 0 (i - lb i) := by
  have h := lb_le i
  have := cntB_add S 0 (i - lb i) (lb i)
  rw [Nat.sub_add_cancel h, Nat.zero_add] at this
  rw [this, fenC, Nat.add_comm]
end Go.Proofs.YtjbdhakogbolkaaDoor
end
section
/- The lowest bit, by the machine's own and. -/
namespace Go.Proofs.YtjbdhakogbolkaaDoor
open Go.RowKit
set_option linter.unusedVariables false
theorem and_two (a b : Nat) (x y : Nat) (hx : x < 2) (hy : y < 2) : (2 * a + x) &&& (2 * b + y) = 2 * (a &&& b) + (if x = 1 ∧ y = 1 then 1 else 0) := by
  have h1 : ((2 * a + x) &&& (2 * b + y)) / 2 = a &&& b := by
    rw [Nat.and_div_two, show (2 * a + x) / 2 = a from by omega, show (2 * b + y) / 2 = b from by omega]
  have h2 : ((2 * a + x) &&& (2 * b + y)) % 2 = if x = 1 ∧ y = 1 then 1 else 0 := by
    have h3 := Nat.and_mod_two_pow (a := 2 * a + x) (b := 2 * b + y) (n := 1)
    rw [show (2 : Nat) ^ 1 = 2 from rfl, show (2 * a + x) % 2 = x from by omega, show (2 * b + y) % 2 = y from by omega] at h3
    rw [h3]
    obtain rfl | rfl : x = 0 ∨ x = 1 := by omega
    · obtain rfl | rfl : y = 0 ∨ y = 1 := by omega
      · rfl
      · rfl
    · obtain rfl | rfl : y = 0 ∨ y = 1 := by omega
      · rfl
      · rfl
  omega
theorem and_compl (m : Nat) : ∀ k, k < 2 ^ m → k &&& (2 ^ m - 1 - k) = 0 := by
  induction m with
  | zero => intro k h; rw [show k = 0 by simpa using h]; rfl
  | succ m ih =>
    intro k h
    rw [Nat.pow_succ] at h ⊢
    obtain ⟨q, rfl | rfl⟩ := parity k
    · have := and_two q (2 ^ m - 1 - q) 0 1 (by omega) (by omega)
      rw [ih q (by omega), Nat.add_zero] at this
      rw [show 2 ^ m * 2 - 1 - 2 * q = 2 * (2 ^ m - 1 - q) + 1 from by omega, this]; rfl
    · have := and_two q (2 ^ m - 1 - q) 1 0 (by omega) (by omega)
      rw [ih q (by omega)] at this
      rw [show 2 ^ m * 2 - 1 - (2 * q + 1) = 2 * (2 ^ m - 1 - q) + 0 from by omega, this]; rfl
theorem and_lb (m : Nat) : ∀ i, 0 < i → i < 2 ^ m → i &&& (2 ^ m - i) = lb i := by
  induction m with
  | zero => intro i h0 h; omega
  | succ m ih =>
    intro i h0 h
    rw [Nat.pow_succ] at h ⊢
    obtain ⟨q, rfl | rfl⟩ := parity i
    · have := and_two q (2 ^ m - q) 0 0 (by omega) (by omega)
      rw [ih q (by omega) (by omega), Nat.add_zero, Nat.add_zero] at this
      rw [show 2 ^ m * 2 - 2 * q = 2 * (2 ^ m - q) from by omega, this, lb_even]; rfl
    · have := and_two q (2 ^ m - 1 - q) 1 1 (by omega) (by omega)
      rw [and_compl m q (by omega)] at this
      rw [show 2 ^ m * 2 - (2 * q + 1) = 2 * (2 ^ m - 1 - q) + 1 from by omega, this, lb_odd]; rfl
theorem bits_lb (i : Nat) (h : i < 9223372036854775808) : bits BinOp.and IntKind.i64 (i : Int) (-(i : Int)) = ((lb i : Nat) : Int) := by
  by_cases h0 : i = 0
  · subst h0; rw [lb_zero]; decide
  have h1 := and_lb 64 i (by omega) (by omega)
  have h2 := lb_le i
  have e1 : BitVec.ofInt 64 (i : Int) = BitVec.ofNat 64 i := BitVec.ofInt_natCast 64 i
  have hn : (BitVec.ofNat 64 i &&& -BitVec.ofNat 64 i).toNat = lb i := by
    rw [BitVec.toNat_and, BitVec.toNat_neg, BitVec.toNat_ofNat, Nat.mod_eq_of_lt (by omega), Nat.mod_eq_of_lt (by omega)]
    exact h1
  have e2 : BitVec.ofInt 64 (-(i : Int)) = -BitVec.ofNat 64 i := by rw [BitVec.ofInt_neg, e1]
  unfold bits
  show IntKind.i64.wrap ((BitVec.ofInt 64 (i : Int) &&& BitVec.ofInt 64 (-(i : Int))).toNat) = _
  rw [e1, e2, hn]
  have := lb_le i
  exact IntWalk.i64_in _ ⟨by omega, by omega⟩
set_option maxHeartbeats 400000 in
theorem lowestBit_any (i : Nat) (h : i < 9223372036854775808) (w : World) : Calls Tryd.prog 55 #[.int .i64 (i : Nat)] w fun e w' => e = .returned (.int .i64 (lb i : Nat)) ∧ w' = w := by
  have hb := bits_lb i h
  go_enter Tryd.func55, Tryd.ntmps55
  go_wp2
  go_ret
  exact ⟨rfl, rfl⟩
end Go.Proofs.YtjbdhakogbolkaaDoor
end
section
/- bpe.counts: ahead. -/
namespace Go.Proofs.YtjbdhakogbolkaaDoor
open Go.RowKit Go.Joins
set_option linter.unusedVariables false
set_option linter.unusedSimpArgs false
theorem cntB_le (S : Nat → Bool) (a k : Nat) : cntB S a k ≤ k := by
  induction k with
  | zero => exact Nat.le_refl _
  | succ k ih => rw [cntB]; split <;> omega
def fenL (S : Nat → Bool) (n : Nat) : List Value := (List.range (n + 1)).map fun i => .int .i64 (fenC S i : Nat)
/-- A tree of counts in its block. -/
def FenAt (w : World) (g n : Nat) (S : Nat → Bool) : Prop := w.heap[g]? = some (.cells (fenL S n).toArray 3 (0, 0))
theorem FenAt.cell {w : World} {g n : Nat} {S : Nat → Bool} (h : FenAt w g n S) {i : Nat} (hi : i ≤ n) : w.cell? ⟨g, i, none⟩ = some (.int .i64 (fenC S i : Nat)) := by
  rw [cell_of_block h]
  unfold fenL
  rw [List.getElem?_toArray, List.getElem?_map, List.getElem?_range (by omega)]
  rfl
theorem FenAt.below {w w' : World} {g n : Nat} {S : Nat → Bool} (h : FenAt w g n S) (hb : Below w.heap.size w w') : FenAt w' g n S := (hb.block g (Array.getElem?_eq_some_iff.1 h).1).trans h
set_option maxHeartbeats 800000 in
theorem ahead_any (g n at0 cap : Nat) (S : Nat → Bool) (w : World) (hn : n ≤ 1048576) (ha : at0 ≤ n) (h : FenAt w g n S) :
    Calls Tryd.prog 37 #[.slice (some ⟨g, 0, none⟩) (n + 1) cap, .int .i64 (at0 : Nat)] w fun e w' => e = .returned (.int .i64 (cntB S 0 at0 : Nat)) ∧ w' = w := by
  have H : Hid (FenAt w g n S) := h
  clear h
  go_enter Tryd.func37, Tryd.ntmps37
  go_wp2_with fail
  go_loopw [5, 6] (fun v5 v6 wr => ∃ k x : Nat, k ≤ at0 ∧ x ≤ at0 ∧ x + cntB S 0 k = cntB S 0 at0 ∧ v5 = .int .i64 (x : Nat) ∧ v6 = .int .i64 (k : Nat) ∧ wr = w) (fun _ v6 _ => (intOf v6).toNat)
  case atStart => exact ⟨at0, 0, Nat.le_refl _, Nat.zero_le _, by omega, rfl, rfl, rfl⟩
  case round =>
    obtain ⟨k, x, hk, hx, hs, rfl, rfl, rfl⟩ := hrel
    have HS : Hid (x + cntB S 0 k = cntB S 0 at0) := hs
    by_cases hp : 0 < k
    · have d : decide (0 < (k : Int)) = true := decide_eq_true (by omega)
      have d' : decide (0 < k) = true := decide_eq_true hp
      have c0 := H.out.cell (i := k) (by omega)
      have h1 := fenC_ahead S k
      have h2 := cntB_le S 0 at0
      have h3 := lb_le k
      have h4 := lb_pos hp
      obtain ⟨y, hy⟩ : ∃ y, y = fenC S k := ⟨_, rfl⟩
      rw [← hy] at c0 h1
      have hxy : x + y ≤ at0 := by omega
      have HE : Hid (x + y + cntB S 0 (k - lb k) = cntB S 0 at0) := by show _ = _; omega
      obtain ⟨b, hb⟩ : ∃ b, b = lb k := ⟨_, rfl⟩
      have HL := lowestBit_any k (by omega) wr
      rw [← hb] at HL h3 h4 HE
      have bk : 0 ≤ (k : Int) ∧ (k : Int) < (n : Int) + 1 := by omega
      clear hs h1 h2 hy hb
      go_wp2_with fail
      refine HL.mono ?_
      rintro e w1 ⟨rfl, he⟩
      obtain rfl := he.symm
      clear HL c0
      go_wp2_with fail
      exact ⟨⟨k - b, x + y, by omega, by omega, HE.out, by go_num, by go_num, trivial⟩, by simp only [intOf]; omega⟩
    · obtain rfl : k = 0 := by omega
      have hx0 : x = cntB S 0 at0 := by simpa [cntB] using hs
      have HX : Hid (x = cntB S 0 at0) := hx0
      clear hs hx0 hp
      go_wp2_with fail
      go_ret
      refine ⟨?_, rfl⟩
      rw [← HX.out]
      rfl
/-- The tree while the place at0 is being cut: below i it is cut already. -/
def fenM (S : Nat → Bool) (at0 i j : Nat) : Nat := if j < i then fenC (fun y => if y = at0 then false else S y) j else fenC S j
def fenML (S : Nat → Bool) (n at0 i : Nat) : List Value := (List.range (n + 1)).map fun j => .int .i64 (fenM S at0 i j : Nat)
theorem fenM_first (S : Nat → Bool) (at0 j : Nat) (hS : S at0 = true) : fenM S at0 (at0 + 1) j = fenC S j := by
  unfold fenM
  by_cases h : j < at0 + 1
  · rw [if_pos h]
    have := fenC_cut S at0 j hS
    rw [if_neg (by omega)] at this
    exact this
  · rw [if_neg h]
theorem fenM_next (S : Nat → Bool) (at0 i j : Nat) (hS : S at0 = true) (hc : FCov i at0) : fenM S at0 (i + lb i) j + (if j = i then 1 else 0) = fenM S at0 i j := by
  have h1 := fenC_cut S at0 j hS
  have hp := lb_pos (i := i) (by have := hc.2; omega)
  unfold fenM
  by_cases hj : j = i
  · subst hj
    rw [if_pos (c := at0 ≥ j - lb j ∧ at0 < j) ⟨hc.1, hc.2⟩] at h1
    rw [if_pos (by omega), if_pos rfl, if_neg (Nat.lt_irrefl j)]
    exact h1
  · rw [if_neg hj]
    by_cases h2 : j < i
    · rw [if_pos h2, if_pos (by omega)]; rfl
    · by_cases h3 : j < i + lb i
      · have hb := hc.between (k := j) (by omega) h3
        rw [if_neg (fun g => hb ⟨g.1, g.2⟩)] at h1
        rw [if_pos h3, if_neg h2]
        exact h1
      · rw [if_neg h3, if_neg h2]; rfl
theorem fenM_last (S : Nat → Bool) (n at0 i : Nat) (h : n < i) : fenML S n at0 i = fenL (fun y => if y = at0 then false else S y) n := by
  unfold fenML fenL
  refine List.map_congr_left fun j hj => ?_
  rw [fenM, if_pos (by have := List.mem_range.1 hj; omega)]
theorem fenML_get (S : Nat → Bool) (n at0 i j : Nat) (h : j ≤ n) : (fenML S n at0 i)[j]? = some (.int .i64 (fenM S at0 i j : Nat)) := by
  unfold fenML
  rw [List.getElem?_map, List.getElem?_range (by omega)]
  rfl
theorem fenML_next (S : Nat → Bool) (n at0 i : Nat) (hS : S at0 = true) (hc : FCov i at0) (hi : i ≤ n) : (fenML S n at0 i).set i (.int .i64 ((fenM S at0 i i : Nat) - 1 : Int)) = fenML S n at0 (i + lb i) := by
  refine List.ext_getElem? fun j => ?_
  have hl : (fenML S n at0 i).length = n + 1 := by simp [fenML]
  have hl2 : (fenML S n at0 (i + lb i)).length = n + 1 := by simp [fenML]
  by_cases hj : j ≤ n
  · have h1 := fenM_next S at0 i j hS hc
    rw [fenML_get S n at0 _ j hj]
    by_cases e : j = i
    · subst e
      rw [List.getElem?_set_self (by omega)]
      rw [if_pos rfl] at h1
      congr 2
      omega
    · rw [List.getElem?_set_ne (fun h => e h.symm), fenML_get S n at0 _ j hj]
      rw [if_neg e, Nat.add_zero] at h1
      rw [h1]
  · rw [List.getElem?_eq_none (by rw [List.length_set]; omega), List.getElem?_eq_none (by omega)]
set_option maxHeartbeats 800000 in
theorem fcut_any (g n at0 cap : Nat) (S : Nat → Bool) (w : World) (hn : n ≤ 1048576) (ha : at0 < n) (hS : S at0 = true) (h : FenAt w g n S) :
    Calls Tryd.prog 36 #[.slice (some ⟨g, 0, none⟩) (n + 1) cap, .int .i64 (at0 : Nat)] w fun e w' => e = .returned (.tuple #[]) ∧ FenAt w' g n (fun y => if y = at0 then false else S y) ∧ w.grownBy w' (some g) := by
  have h0 : w.heap[g]? = some (.cells (fenML S n at0 (at0 + 1)).toArray 3 (0, 0)) := by
    have e : fenML S n at0 (at0 + 1) = fenL S n := by
      unfold fenML fenL
      exact List.map_congr_left fun j _ => by rw [fenM_first S at0 j hS]
    rw [e]; exact h
  have H0 : Hid (w.heap[g]? = some (.cells (fenML S n at0 (at0 + 1)).toArray 3 (0, 0))) := h0
  have HSS : Hid (S at0 = true) := hS
  clear h h0 hS
  go_enter Tryd.func36, Tryd.ntmps36
  go_wp2_with fail
  go_loopw [4] (fun v4 wr => ∃ i : Nat, i ≤ 2 * n ∧ FCov i at0 ∧ v4 = .int .i64 (i : Nat) ∧ wr.heap[g]? = some (.cells (fenML S n at0 i).toArray 3 (0, 0)) ∧ w.grownBy wr (some g)) (fun v4 _ => n + 1 - (intOf v4).toNat)
  case atStart => exact ⟨at0 + 1, by omega, FCov.first at0, by go_num, H0.out, World.grownBy.refl _ _⟩
  case round =>
    obtain ⟨i, hi, hc, rfl, hh, hg⟩ := hrel
    have HC : Hid (FCov i at0) := hc
    have HH : Hid (wr.heap[g]? = some (.cells (fenML S n at0 i).toArray 3 (0, 0))) := hh
    have HG : Hid (w.grownBy wr (some g)) := hg
    by_cases hp : i ≤ n
    · have d : decide ((i : Int) < (n : Int) + 1) = true := decide_eq_true (by omega)
      have d' : decide (i < n + 1) = true := decide_eq_true (by omega)
      have c0 : wr.cell? ⟨g, i, none⟩ = some (.int .i64 (fenM S at0 i i : Nat)) := by
        rw [cell_of_block hh, List.getElem?_toArray]; exact fenML_get S n at0 i i hp
      have f0 : wr.frozen? ⟨g, i, none⟩ = false := unfrozen_of_block hh i
      have h3 := lb_le i
      have h4 := lb_pos (i := i) (by have := hc.2; omega)
      have h5 : fenM S at0 i i ≤ i := by
        rw [fenM, if_neg (Nat.lt_irrefl i)]
        exact Nat.le_trans (cntB_le _ _ _) h3
      have HNX : Hid ((fenML S n at0 i).set i (.int .i64 ((fenM S at0 i i : Nat) - 1 : Int)) = fenML S n at0 (i + lb i)) := fenML_next S n at0 i HSS.out hc hp
      have HCN : Hid (FCov (i + lb i) at0) := hc.next
      obtain ⟨y, hy⟩ : ∃ y, y = fenM S at0 i i := ⟨_, rfl⟩
      rw [← hy] at c0 h5 HNX
      obtain ⟨b, hb⟩ : ∃ b, b = lb i := ⟨_, rfl⟩
      have HL := fun W => lowestBit_any i (by omega) W
      rw [← hb] at HL h3 h4 HNX HCN
      have bk : 0 ≤ (i : Int) ∧ (i : Int) < (n : Int) + 1 := by omega
      clear hh hg hc hy hb
      go_wp2_with fail
      refine (HL _).mono ?_
      rintro e w1 ⟨rfl, he⟩
      obtain rfl := he.symm
      clear HL c0 f0
      go_wp2_with fail
      refine ⟨⟨i + b, by omega, HCN.out, by go_num, ?_, ?_⟩, by simp only [intOf]; omega⟩
      · have := block_setCell HH.out (i := i) (.int .i64 ((y : Int) - 1))
        rw [this, ← HNX.out]
        simp
      · exact HG.out.trans ⟨rfl, rfl, rfl, by simp, fun k _ hk => heap_setCell_other wr ⟨g, i, none⟩ k _ (fun e => hk (by simp [e]))⟩
    · have d : decide ((i : Int) < (n : Int) + 1) = false := decide_eq_false (by omega)
      have d' : decide (i < n + 1) = false := decide_eq_false (by omega)
      clear hh hg hc
      go_wp2_with fail
      go_end0
      refine ⟨rfl, ?_, HG.out⟩
      have := HH.out
      rw [fenM_last S n at0 i (by omega)] at this
      exact this
end Go.Proofs.YtjbdhakogbolkaaDoor
end
section
/- tesserabook.Roomy, Intact of ints: their contracts. -/
namespace Go.Proofs.YtjbdhakogbolkaaDoor
open Go.RowKit Go.Joins Go.Sort
set_option linter.unusedVariables false
set_option linter.unusedSimpArgs false
def cellsN (l : List Int) : List Value := l.map fun x => .int .i64 x
theorem cellsN_length (l : List Int) : (cellsN l).length = l.length := by simp [cellsN]
theorem cellsN_get (l : List Int) (i : Nat) (x : Int) (h : l[i]? = some x) : (cellsN l)[i]? = some (.int .i64 x) := by unfold cellsN; rw [List.getElem?_map, h]; rfl
theorem cellsN_one (l : List Int) : ∀ v ∈ cellsN l, v.oneCell' = true := by
  intro v hv
  obtain ⟨x, _, rfl⟩ := List.mem_map.1 hv
  rfl
theorem cellsN_set (l : List Int) (i : Nat) (x : Int) : (cellsN l).set i (.int .i64 x) = cellsN (l.set i x) := by unfold cellsN; rw [List.map_set]
/-- A block of ints. -/
def OwnB (w : World) (g : Nat) (L : List Value) : Prop := w.heap[g]? = some (.cells L.toArray 3 (0, 0))
theorem OwnB.lt {w : World} {g : Nat} {L : List Value} (h : OwnB w g L) : g < w.heap.size := (Array.getElem?_eq_some_iff.1 h).1
theorem OwnB.cell {w : World} {g : Nat} {L : List Value} (h : OwnB w g L) (j : Nat) : w.cell? ⟨g, j, none⟩ = L[j]? := by
  rw [cell_of_block h]; simp
theorem OwnB.free {w : World} {g : Nat} {L : List Value} (h : OwnB w g L) (j : Nat) : w.frozen? ⟨g, j, none⟩ = false := unfrozen_of_block h j
theorem OwnB.below {w w' : World} {g : Nat} {L : List Value} (h : OwnB w g L) (hb : Below w.heap.size w w') : OwnB w' g L := (hb.block g h.lt).trans h
theorem OwnB.set {w : World} {g : Nat} {L : List Value} (h : OwnB w g L) (j : Nat) (v : Value) : OwnB (w.setCell ⟨g, j, none⟩ v) g (L.set j v) := by
  have := block_setCell h (i := j) v
  unfold OwnB; rw [this]; simp
theorem OwnB.ins {w : World} {g : Nat} {l r : List Int} (h : OwnB w g (cellsN (l ++ r))) : CH.INS w (some ⟨g, 0, none⟩) l := by
  refine .inr ⟨g, 0, rfl, fun i x hx => ?_⟩
  rw [Nat.zero_add, h.cell]
  exact cellsN_get _ _ _ (by rw [List.getElem?_append_left (List.getElem?_eq_some_iff.1 hx).1]; exact hx)
def fillN (l : List Int) (m : Int) (k : Nat) : List Int := l ++ (List.replicate k m ++ List.replicate (80 - k) 0)
theorem fillN_set (l : List Int) (m : Int) (k : Nat) (h : k < 80) : (fillN l m k).set (l.length + k) m = fillN l m (k + 1) := by
  unfold fillN
  rw [List.set_append_right _ _ (by omega), Nat.add_sub_cancel_left, List.set_append_right _ _ (by simp)]
  simp only [List.length_replicate, Nat.sub_self]
  rw [show 80 - k = (80 - (k + 1)) + 1 from by omega, List.replicate_succ, List.set_cons_zero, List.replicate_succ', List.append_assoc]
  rfl
theorem fillN_length (l : List Int) (m : Int) (k : Nat) (h : k ≤ 80) : (fillN l m k).length = l.length + 80 := by
  simp [fillN]; omega
theorem fillN_get (l : List Int) (m : Int) (n k : Nat) (h : k < n) : (fillN l m n)[l.length + k]? = some m := by
  unfold fillN
  rw [List.getElem?_append_right (by omega), Nat.add_sub_cancel_left, List.getElem?_append_left (by simpa using h)]
  simp [h]
theorem fillN_start (l : List Int) (m : Int) : fillN l 0 0 = fillN l m 0 := by simp [fillN]
theorem sizeN : (Tryd.prog.info? 3).map (·.size) = some 1 := by kernel_rfl
theorem copy_runN (W : World) (g : Nat) (a : Option Addr) (cap : Nat) (l : List Int) (hO : OwnB W g (cellsN (List.replicate (l.length + 80) 0))) (h : CH.INS W a l) :
    ∃ W1, (Builtin.copy_ #[34, 34] 3 #[.slice (some ⟨g, 0, none⟩) (l.length + 80) (l.length + 80), .slice a l.length cap]).run Tryd.prog W = .ok (.int .i64 (l.length : Int)) W1 ∧
      OwnB W1 g (cellsN (fillN l 0 0)) ∧ ∀ B w0, Below B w0 W → B ≤ g → Below B w0 W1 := by
  have hspl : (cellsN (List.replicate (l.length + 80) 0)).take 0 ++ cellsN l ++ (cellsN (List.replicate (l.length + 80) 0)).drop (0 + (cellsN l).length) = cellsN (fillN l 0 0) := by
    unfold fillN cellsN
    simp
  rcases h with rfl | ⟨b, off, rfl, hc⟩
  · refine ⟨W, ?_, by simpa [fillN, cellsN] using hO, fun _ _ h _ => h⟩
    exact run_copy_none (P := Tryd.prog) W 34 34 3 3 _ _ _ _ _ _ Tryd.underlying34 sizeN (by simp)
  · have hr := run_copy_row (P := Tryd.prog) W 34 34 3 3 g 0 (l.length + 80) (l.length + 80) ⟨b, off, none⟩ l.length cap (cellsN (List.replicate (l.length + 80) 0)).toArray 3 (cellsN l) Tryd.underlying34 sizeN hO (by rw [cellsN_length]; exact (Nat.min_eq_left (by omega)).symm) (fun j v hj => by
        have hj' : j < l.length := by
          have := (List.getElem?_eq_some_iff.1 hj).1
          rw [cellsN_length] at this
          exact this
        rw [cellsN_get l j _ (List.getElem?_eq_getElem hj')] at hj
        rw [Go.WideShapes.add_plain, hc j _ (List.getElem?_eq_getElem hj')]; exact hj) (by rw [cellsN_length]; simp [cellsN]) (cellsN_one l)
    refine ⟨_, by rw [cellsN_length] at hr; exact hr, ?_, fun B w0 hb hg => below_setRow hb hg _⟩
    have := setRow_heap W g (cellsN (List.replicate (l.length + 80) 0)).toArray ((cellsN (List.replicate (l.length + 80) 0)).take 0 ++ cellsN l ++ (cellsN (List.replicate (l.length + 80) 0)).drop (0 + (cellsN l).length)).toArray 3 (0, 0) hO
    unfold OwnB
    rw [← hspl, ← this]
    simp [cellsN_length]
set_option maxHeartbeats 800000 in
theorem roomyN_any (a : Option Addr) (cap : Nat) (l : List Int) (m : Int) (w : World) (hlen : l.length ≤ 17592186044416) (h : CH.INS w a l) :
    Calls Tryd.prog 20 #[.slice a l.length cap, .int .i64 m] w fun e w' =>
      e = .returned (.slice (some ⟨w.heap.size, 0, none⟩) (l.length + 80) (l.length + 80)) ∧ Below w.heap.size w w' ∧ OwnB w' w.heap.size (cellsN (fillN l m 80)) ∧ w.heap.size < w'.heap.size := by
  obtain ⟨i0, hi, hz0, hz1, hz2⟩ := HQ.info_parts infoN
  have hmk : ∀ u : World, (Instr.makeSlice 34 (.int .i64 ((l.length : Int) + 80)) (.int .i64 ((l.length : Int) + 80))).run Tryd.prog u =
      .ok (.slice (some ⟨u.heap.size, 0, none⟩) (l.length + 80) (l.length + 80)) (u.alloc (.cells (cellsN (List.replicate (l.length + 80) 0)).toArray 3)) := fun u => by
    have h := run_make (P := Tryd.prog) u 34 3 i0 (.int .i64 0) Tryd.underlying34 hi hz0 .i64 .i64 ((l.length : Int) + 80) ((l.length : Int) + 80) (by omega) (Int.le_refl _) (by rw [hz2]; omega) (by omega)
    have e : ((l.length : Int) + 80).toNat = l.length + 80 := by omega
    rw [e] at h
    have e2 : (madeCells #[Value.int .i64 0] (l.length + 80)) = (cellsN (List.replicate (l.length + 80) 0)).toArray := by
      rw [show cellsN (List.replicate (l.length + 80) 0) = List.replicate (l.length + 80) (Value.int .i64 0) by unfold cellsN; simp]
      rw [← toList_madeCells_one]
    rw [← e2]
    simpa [hz1, Value.cells] using h
  obtain ⟨wa, hwa⟩ : ∃ wa, wa = w.alloc (.cells (cellsN (List.replicate (l.length + 80) 0)).toArray 3) := ⟨_, rfl⟩
  have hbA : Below w.heap.size w wa := by rw [hwa]; exact (Below.refl w.heap.size w).alloc (Nat.le_refl _) _
  have hO : OwnB wa w.heap.size (cellsN (List.replicate (l.length + 80) 0)) := by rw [hwa]; exact heap_alloc_new w _
  obtain ⟨w1, hcp, ho1, hb1⟩ := copy_runN wa w.heap.size a cap l hO (INS.below' h hbA)
  have hb1 := hb1 _ _ hbA (Nat.le_refl _)
  rw [fillN_start l m] at ho1
  rw [hwa] at hcp
  clear hO hbA h hwa
  obtain ⟨n, hnn⟩ : ∃ n, n = l.length := ⟨_, rfl⟩
  have HN : Hid (n = l.length) := hnn
  obtain ⟨g, hg⟩ : ∃ g, g = w.heap.size := ⟨_, rfl⟩
  have HG : Hid (g = w.heap.size) := hg
  rw [← hnn] at hmk hcp hlen ⊢
  clear hnn
  go_enter Tryd.func20, Tryd.ntmps20
  go_wp2_with fail
  rw [← hg] at ho1 hb1 ⊢
  clear hmk hcp hg
  go_loopw [6] (fun i wr => ∃ k : Nat, k ≤ 80 ∧ i = .int .i64 ((n : Int) + k) ∧ OwnB wr g (cellsN (fillN l m k)) ∧ Below g w wr) (fun i _ => 80 + n - (intOf i).toNat)
  case atStart => exact ⟨0, Nat.zero_le _, by simp, ho1, hb1⟩
  case round =>
    obtain ⟨k, hk, rfl, hown, hbr⟩ := hrel
    have HO : Hid (OwnB wr g (cellsN (fillN l m k))) := hown
    by_cases hlt : k < 80
    · obtain ⟨u, hu⟩ : ∃ u, (fillN l m k)[n + k]? = some u := ⟨_, List.getElem?_eq_getElem (by rw [fillN_length _ _ _ (by omega), ← HN.out]; omega)⟩
      have hcell : wr.cell? ⟨g, n + k, none⟩ = some (.int .i64 u) := by rw [hown.cell]; exact cellsN_get _ _ _ hu
      have hfree := hown.free (n + k)
      have d : decide ((n : Int) + (k : Int) < (n : Int) + 80) = true := decide_eq_true (by omega)
      have hidx : 0 ≤ (n : Int) + (k : Int) ∧ (n : Int) + (k : Int) < (n : Int) + 80 := by omega
      have htn : ((n : Int) + (k : Int)).toNat = n + k := by omega
      clear hown hu
      go_wp2_with fail
      refine ⟨⟨k + 1, by omega, ?_, ?_, hbr.setCell (Nat.le_refl _) _⟩, by simp only [intOf]; omega⟩
      · simp; omega
      · have := HO.out.set (n + k) (.int .i64 m)
        rw [cellsN_set, HN.out, fillN_set l m k hlt, ← HN.out] at this
        exact this
    · have hk80 : k = 80 := by omega
      subst hk80
      have d : decide ((n : Int) + ((80 : Nat) : Int) < (n : Int) + 80) = false := decide_eq_false (by omega)
      clear hown
      go_wp2_with fail
      go_ret
      rw [← HG.out]
      exact ⟨rfl, hbr, HO.out, HO.out.lt⟩
end Go.Proofs.YtjbdhakogbolkaaDoor
end
section
/- bpe.newCounts. -/
namespace Go.Proofs.YtjbdhakogbolkaaDoor
open Go.RowKit Go.Joins
set_option linter.unusedVariables false
set_option linter.unusedSimpArgs false
def newL (n k : Nat) : List Int := (List.range (n + 1)).map fun j => if j < k then ((lb j : Nat) : Int) else 0
theorem newL_zero (n : Nat) : newL n 0 = List.replicate (n + 1) 0 := by
  refine List.ext_getElem (by simp [newL]) fun i h1 h2 => ?_
  simp [newL]
theorem newL_get (n k j : Nat) (h : j ≤ n) : (newL n k)[j]? = some (if j < k then ((lb j : Nat) : Int) else 0) := by
  unfold newL
  rw [List.getElem?_map, List.getElem?_range (by omega)]; rfl
theorem newL_set (n k : Nat) (h : k ≤ n) : (newL n k).set k ((lb k : Nat) : Int) = newL n (k + 1) := by
  refine List.ext_getElem? fun j => ?_
  have hl : (newL n k).length = n + 1 := by simp [newL]
  have hl2 : (newL n (k + 1)).length = n + 1 := by simp [newL]
  by_cases hj : j ≤ n
  · rw [newL_get n _ j hj]
    by_cases e : j = k
    · subst e
      rw [List.getElem?_set_self (by omega), if_pos (by omega)]
    · rw [List.getElem?_set_ne (fun h => e h.symm), newL_get n _ j hj]
      by_cases h2 : j < k
      · rw [if_pos h2, if_pos (by omega)]
      · rw [if_neg h2, if_neg (by omega)]
  · rw [List.getElem?_eq_none (by rw [List.length_set]; omega), List.getElem?_eq_none (by omega)]
theorem newL_last (n : Nat) : cellsN (newL n (n + 1)) = fenL (fun _ => true) n := by
  unfold cellsN newL fenL
  rw [List.map_map]
  refine List.map_congr_left fun j hj => ?_
  have := List.mem_range.1 hj
  simp only [Function.comp]
  rw [if_pos this, fenC_new]
set_option maxHeartbeats 800000 in
theorem newCounts_any (n : Nat) (w : World) (hn : n ≤ 1048576) :
    Calls Tryd.prog 34 #[.int .i64 (n : Nat)] w fun e w' => e = .returned (.slice (some ⟨w.heap.size, 0, none⟩) (n + 1) (n + 1)) ∧ FenAt w' w.heap.size n (fun _ => true) ∧ Below w.heap.size w w' := by
  obtain ⟨i0, hi, hz0, hz1, hz2⟩ := HQ.info_parts infoN
  have hmk : ∀ u : World, (Instr.makeSlice 80 (.int .i64 ((n : Int) + 1)) (.int .i64 ((n : Int) + 1))).run Tryd.prog u =
      .ok (.slice (some ⟨u.heap.size, 0, none⟩) (n + 1) (n + 1)) (u.alloc (.cells (cellsN (newL n 0)).toArray 3)) := fun u => by
    have h := run_make (P := Tryd.prog) u 80 3 i0 (.int .i64 0) Tryd.underlying80 hi hz0 .i64 .i64 ((n : Int) + 1) ((n : Int) + 1) (by omega) (Int.le_refl _) (by rw [hz2]; omega) (by omega)
    have e : ((n : Int) + 1).toNat = n + 1 := by omega
    rw [e] at h
    have e2 : (madeCells #[Value.int .i64 0] (n + 1)) = (cellsN (newL n 0)).toArray := by
      rw [newL_zero, show cellsN (List.replicate (n + 1) 0) = List.replicate (n + 1) (Value.int .i64 0) by unfold cellsN; simp]
      rw [← toList_madeCells_one]
    rw [← e2]
    simpa [hz1, Value.cells] using h
  obtain ⟨wa, hwa⟩ : ∃ wa, wa = w.alloc (.cells (cellsN (newL n 0)).toArray 3) := ⟨_, rfl⟩
  have hbA : Below w.heap.size w wa := by rw [hwa]; exact (Below.refl w.heap.size w).alloc (Nat.le_refl _) _
  have hO : OwnB wa w.heap.size (cellsN (newL n 0)) := by rw [hwa]; exact heap_alloc_new w _
  obtain ⟨g, hg⟩ : ∃ g, g = w.heap.size := ⟨_, rfl⟩
  rw [← hg] at hO hbA
  have HGG : Hid (g = w.heap.size) := hg
  go_enter Tryd.func34, Tryd.ntmps34
  go_wp2_with fail
  rw [← hwa, ← hg]
  clear hmk hwa hg
  go_loopw [10] (fun i wr => ∃ k : Nat, k ≤ n + 1 ∧ i = .int .i64 (k : Nat) ∧ OwnB wr g (cellsN (newL n k)) ∧ Below g w wr) (fun i _ => n + 1 - (intOf i).toNat)
  case atStart => exact ⟨0, Nat.zero_le _, by simp, hO, hbA⟩
  case round =>
    obtain ⟨k, hk, rfl, hown, hbr⟩ := hrel
    have HO : Hid (OwnB wr g (cellsN (newL n k))) := hown
    have HB : Hid (Below g w wr) := hbr
    by_cases hlt : k ≤ n
    · have HNX : Hid ((newL n k).set k ((lb k : Nat) : Int) = newL n (k + 1)) := newL_set n k hlt
      have hcell : wr.cell? ⟨g, k, none⟩ = some (.int .i64 0) := by
        rw [hown.cell]; exact cellsN_get _ _ _ (by rw [newL_get n k k hlt, if_neg (Nat.lt_irrefl k)])
      have hfree := hown.free k
      have HL := lowestBit_any k (by omega) wr
      obtain ⟨b, hb⟩ : ∃ b, b = lb k := ⟨_, rfl⟩
      rw [← hb] at HL HNX
      have d : decide ((k : Int) < (n : Int) + 1) = true := decide_eq_true (by omega)
      have d' : decide (k < n + 1) = true := decide_eq_true (by omega)
      have bk : 0 ≤ (k : Int) ∧ (k : Int) < (n : Int) + 1 := by omega
      clear hb hown hbr hO hbA
      go_wp2_with fail
      refine HL.mono ?_
      rintro e w1 ⟨rfl, he⟩
      obtain rfl := he.symm
      clear HL
      go_wp2_with fail
      refine ⟨⟨k + 1, by omega, by go_num, ?_, ?_⟩, by simp only [intOf]; omega⟩
      · have := HO.out.set k (.int .i64 (b : Nat))
        rw [cellsN_set, HNX.out] at this
        exact this
      · exact HB.out.setCell (p := ⟨g, k, none⟩) (Nat.le_refl _) _
    · obtain rfl : k = n + 1 := by omega
      have d : decide (((n + 1 : Nat) : Int) < (n : Int) + 1) = false := decide_eq_false (by omega)
      clear hown hbr hO hbA
      go_wp2_with fail
      go_ret
      have h1 := HO.out
      rw [newL_last] at h1
      rw [← HGG.out]
      exact ⟨rfl, h1, HB.out⟩
end Go.Proofs.YtjbdhakogbolkaaDoor
end
section
/- bpe.Steps: what its iterator turns, what a round keeps; the places that stand. -/
namespace Go.Proofs.YtjbdhakogbolkaaDoor
open Go.RowKit Go.Shelf Go.Lib
open Go.Joins Go.Sort
set_option linter.unusedVariables false
set_option linter.unusedSimpArgs false
theorem roundIn_any {l m m' : Nat} {P : Program} {lp : Nat} {fn : FuncId} {tmps : Array Value} {assign body : Code} {W : World} {R : Ending → World → Prop} (h : RoundIn Fence.wide m P lp fn tmps assign body W R) : RoundIn (Fence.wide.inRound l) m' P lp fn tmps assign body W R :=
  ⟨h.1, fun c cs _ => h.2 c cs (by simp [Fence.room, Fence.wide])⟩
theorem wpIn_then_false {F : Fence} {n : Nat} {P : Program} {c : Code} {K : Act → World → Prop} {Q : Exit → Act → World → Prop} {a : Act} {w : World} (h : c.wpIn F n P (Exit.then K (fun _ _ _ => False)) a w) : c.wpIn F n P (Exit.then K Q) a w :=
  wpIn_mono h (by intro e a w h; cases e <;> first | exact h | exact h.elim)
/-- A step's value. -/
def valS (x : Nat × Nat) : Value := .agg #[.int .i64 (x.1 : Nat), .int .i64 (x.2 : Nat)]
/-- What the steps' iterator may turn: from lo on; of q's and later ones: pairs, and no cells. -/
structure RlS (lo q : Nat) (A B : World) : Prop where
  os : B.os = A.os
  tape : B.tape = A.tape
  output : B.output = A.output
  size : A.heap.size ≤ B.heap.size
  old : ∀ k, k < lo → B.heap[k]? = A.heap[k]?
  block : ∀ k o, q ≤ k → A.heap[k]? = some o → ¬ PairO o → o.isCells = true → B.heap[k]? = some o
theorem RlP.toS {lo hi lo' q : Nat} {A B : World} (h : RlP lo hi A B) (h1 : lo' ≤ lo) (h2 : hi ≤ q) : RlS lo' q A B :=
  ⟨h.os, h.tape, h.output, h.size, fun k hk => h.old k (by omega), fun k o hk ho hn _ => h.block k o (by omega) ho hn⟩
theorem RlS.of_below {lo q : Nat} {A B : World} (h : Below A.heap.size A B) (hl : lo ≤ A.heap.size) : RlS lo q A B := (RlP.of_below (hi := q) h hl).toS (Nat.le_refl _) (Nat.le_refl _)
theorem RlS.below {lo q : Nat} {A B : World} (h : RlS lo q A B) : Below lo A B := ⟨h.os, h.tape, h.output, h.size, h.old⟩
theorem RlS.of_grown {lo q : Nat} {A B : World} {row : Option Nat} (h : A.grownBy B row) (hl : lo ≤ A.heap.size) (hr : ∀ r, row = some r → lo ≤ r ∧ (r < q ∨ ∃ o : Obj, A.heap[r]? = some o ∧ o.isCells = false)) : RlS lo q A B :=
  ⟨h.os, h.tape, h.output, h.size, fun k hk => h.block k (by omega) (fun e => by have := (hr k e.symm).1; omega), fun k o hk ho hn hc => (h.block k (Array.getElem?_eq_some_iff.1 ho).1 (fun e => by
    rcases (hr k e.symm).2 with h1 | ⟨o', h1, h2⟩
    · omega
    · rw [ho] at h1; cases h1; rw [hc] at h2; cases h2)).trans ho⟩
/-- What a round keeps: what is older than M0; all cells from B0 on; pairs. -/
structure KpS (M0 B0 : Nat) (A B : World) : Prop where
  os : B.os = A.os
  tape : B.tape = A.tape
  output : B.output = A.output
  size : A.heap.size ≤ B.heap.size
  old : ∀ k, k < M0 → B.heap[k]? = A.heap[k]?
  cells : ∀ k o, (B0 ≤ k ∨ PairO o) → o.isCells = true → A.heap[k]? = some o → B.heap[k]? = some o
theorem KpS.toP {M0 B0 lo hi : Nat} {A B : World} (h : KpS M0 B0 A B) (hb : B0 ≤ lo) : KpP M0 lo hi A B :=
  ⟨h.os, h.tape, h.output, h.size, h.old, fun k o h1 hc ho => h.cells k o (h1.imp_left fun h => by omega) hc ho⟩
theorem KpS.trans {M0 B0 : Nat} {A B C : World} (h : KpS M0 B0 A B) (k : KpS M0 B0 B C) : KpS M0 B0 A C :=
  ⟨k.os.trans h.os, k.tape.trans h.tape, k.output.trans h.output, Nat.le_trans h.size k.size, fun i hi => (k.old i hi).trans (h.old i hi), fun i o hp hc ho => k.cells i o hp hc (h.cells i o hp hc ho)⟩
theorem KpS.refl {M0 B0 : Nat} (A : World) : KpS M0 B0 A A := ⟨rfl, rfl, rfl, Nat.le_refl _, fun _ _ => rfl, fun _ _ _ _ h => h⟩
theorem KpS.of_below {M0 B0 : Nat} {A B : World} (h : Below A.heap.size A B) (hM : M0 ≤ A.heap.size) : KpS M0 B0 A B :=
  ⟨h.os, h.tape, h.output, h.size, fun k hk => h.block k (by omega), fun k o _ _ ho => (h.block k (Array.getElem?_eq_some_iff.1 ho).1).trans ho⟩
theorem KpS.putObj {M0 B0 : Nat} (W : World) (l : Nat) (o o' : Obj) (h : W.heap[l]? = some o) (ho : o.isCells = false) (hM : M0 ≤ l) : KpS M0 B0 W (W.putObj l o') :=
  ⟨rfl, rfl, rfl, by simp, fun k hk => World.putObj_heap_other (by omega), fun k u _ hu hk => (World.putObj_heap_other (fun e => by
    subst e
    rw [h] at hk
    cases hk
    rw [ho] at hu
    cases hu)).trans hk⟩
theorem KpP.of_grown {M0 lo hi : Nat} {A B : World} {row : Option Nat} (h : A.grownBy B row) (hM : M0 ≤ A.heap.size) (hr : ∀ r, row = some r → M0 ≤ r ∧ (r < lo ∨ hi ≤ r) ∧ ∀ o, A.heap[r]? = some o → ¬ PairO o) : KpP M0 lo hi A B :=
  ⟨h.os, h.tape, h.output, h.size, fun k hk => h.block k (by omega) (fun e => by have := (hr k e.symm).1; omega), fun k o h1 hc ho => (h.block k (Array.getElem?_eq_some_iff.1 ho).1 (fun e => by
    obtain ⟨g1, g2, g3⟩ := hr k e.symm
    rcases h1 with h1 | h1
    · omega
    · exact g3 o ho h1)).trans ho⟩
theorem cntB_cnt {S inn : Nat → Bool} : ∀ {l : Nat}, (∀ y, y < l → S y = inn y) → cntB S 0 l = CH.cntG inn l
  | 0, _ => rfl
  | l + 1, h => by
    rw [cntB, CH.cntG, cntB_cnt (fun y hy => h y (by omega)), Nat.zero_add, h l (by omega)]
theorem IsP.step {ms : List Mg} {n : Nat} {s : StJ} {x : HQ.El} (h : IsP ms n s x) : ∃ p k q : Nat, x.p = (p : Int) ∧ x.k = (k : Int) ∧ x.q = (q : Int) ∧ p < n ∧ q < n ∧ p < q ∧ s.1 q = true ∧ (stp s x).1 = CH.cutP s.1 q ∧ x.p.toNat = p ∧ x.k.toNat = k := by
  obtain ⟨l, k, e1, e2, e3, hl, hin, hx, hpa, hmin⟩ := h
  refine ⟨l, k, CH.nxF s.1 n l, e1, e2, e3, hl, hx, CH.nx_gt hl, CH.nx_in (by omega) hx, ?_, by omega, by omega⟩
  unfold stp; rw [e3]; rfl
variable {F : Fence} {n : Nat} {P : Program} {w : World}
theorem wpIn_rangeFunc_G2 {α : Type} {g : Operand} {ps : Array Tmp} {assign body : Code} {Q : Exit → Act → World → Prop} {a : Act}
    (hro : F.round = none) (h1 : 1 ≤ n) {gf : Nat} {lb : Array Value} (hg : a.eval g = .func (.func gf) #[] lb) (hFg : F.fn gf) (eg : ∀ args w, (callFunc gf args).run P w = .ok (.enter gf args) w)
    {encs : α → Array Value} {Rl : Nat → Nat → World → World → Prop} {Kp : Nat → World → World → Prop} {Ok : List α → α → Prop} {Fin : List α → World → Prop} {Sp : List α → Prop} {w0 : World} (hseq : SeqG F (n - 1) P gf lb encs Rl Kp Ok Fin Sp w0)
    (hRl : ∀ q A B k o, w.heap.size + 2 ≤ q ∨ True → Rl (w.heap.size + 2) q A B → k < w.heap.size + 2 → w.heap.size ≤ k → A.heap[k]? = some o → o.isCells = false → B.heap[k]? = some o)
    (hFin : ∀ xs A o o', Fin xs A → A.heap[w.heap.size + 1]? = some o → o.isCells = false → Fin xs (A.putObj (w.heap.size + 1) o'))
    (hKt : ∀ {A B C : World}, Kp (w.heap.size + 2) A B → Kp (w.heap.size + 2) B C → Kp (w.heap.size + 2) A C) (hKb : ∀ (W : World) (o o' : Obj), W.heap[w.heap.size + 1]? = some o → o.isCells = false → o.isWalk = false → Kp (w.heap.size + 2) W (W.putObj (w.heap.size + 1) o')) (hb0 : Below w0.heap.size w0 w) (hps : ∀ x, (encs x).size = ps.size)
    (I : Nat → List α → World → Prop) (Ix : Code → Nat → List α → World → Prop) (hI' : ∀ q, OwnFrom w.heap.size (I q)) (hIx' : ∀ c q, OwnFrom w.heap.size (Ix c q)) (hI : AbG (Rl (w.heap.size + 2)) I) (hIx : ∀ c, AbG (Rl (w.heap.size + 2)) (Ix c)) (h0 : ∀ q, w.heap.size + 2 ≤ q → I q [] w) (f : Act → α → Nat → Act) (O : α → Obj) (hO : ∀ x, (O x).isCells = true)
    (hassign : ∀ (q : Nat) (pre : List α) (x : α) (W : World) (K : Act → World → Prop), I q pre W → w.heap.size + 2 ≤ q → q ≤ W.heap.size → (∀ a' W' b, KeepsFrom w.heap.size W W' → Kp (w.heap.size + 2) W W' → I q pre W' → W'.heap[b]? = some (O x) → a' = f a x b → K a' W') →
      assign.wpIn (F.inRound (w.heap.size + 1)) (n - 1 - 1) P (Exit.then K (fun _ _ _ => False)) { tmps := (ps.zip (encs x)).foldl (fun t (p, v) => t.setIfInBounds p v) a.tmps, defers := [] } W)
    (hbody : ∀ (q : Nat) (pre : List α) (x : α) (b : Nat) (W : World), (∃ r, W.heap[w.heap.size + 1]? = some (.loop r)) → w.heap.size + 2 ≤ q → q ≤ W.heap.size → I q pre W → W.heap[b]? = some (O x) → Ok pre x → body.wpIn (F.inRound (w.heap.size + 1)) (n - 1 - 1) P (ownPostG w.heap.size (Kp (w.heap.size + 2)) (I q) (fun c => Ix c q) (pre ++ [x]) W) (f a x b) W)
    (hdone : ∀ (D q : Nat) (xs : List α) (W : World), D = w.heap.size → w.heap.size + 2 ≤ q → Fin xs W → I q xs W → W.heap[D]? = some (.deferred (some [])) → Q .normal { a with defers := { target := .collected D, args := #[] } :: a.defers } W)
    (hstop : ∀ (D q : Nat) (c : Code) (pre : List α) (W : World), D = w.heap.size → w.heap.size + 2 ≤ q → Sp pre → Ix c q pre W → W.heap[D]? = some (.deferred (some [])) → c.wpIn F n P Q { a with defers := { target := .collected D, args := #[] } :: a.defers } W) :
    (Code.rangeFunc g ps assign body).wpIn F n P Q a w :=
  wpIn_rangeFunc_G hro h1 hg hFg eg hseq hRl hFin hKt hKb hb0 hps I Ix hI' hIx' hI hIx h0 (fun x a' W => ∃ b, W.heap[b]? = some (O x) ∧ a' = f a x b)
    (fun x a' _ X Y row hs hg hr => by
      obtain ⟨b, g1, g2⟩ := hs
      exact ⟨b, (hg.block b (Array.getElem?_eq_some_iff.1 g1).1 (fun e => by
        obtain ⟨_, o, ho, hc⟩ := hr b e.symm
        rw [g1] at ho
        cases ho
        rw [hO] at hc
        cases hc)).trans g1, g2⟩)
    (fun q pre x W K hi hq1 hq2 hK => hassign q pre x W K hi hq1 hq2 (fun a' W' b k1 k2 k3 k4 k5 => hK a' W' k1 k2 k3 ⟨b, k4, k5⟩))
    (fun q pre x a' W g1 g2 g3 g4 g5 g6 => by
      obtain ⟨b, g7, g8⟩ := g5
      subst g8
      exact hbody q pre x b W g1 g2 g3 g4 g7 g6) hdone hstop
end Go.Proofs.YtjbdhakogbolkaaDoor
end
