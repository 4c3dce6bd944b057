/- chain's methods that read: their contracts. -/
import Derived.Test.YtlmbkhpbfmkmjaaCHMath
import Derived.Test.YtlmbkhpbfmkmjaaProg
import Derived.ProofKit
import Derived.Below
import Derived.OpenShut
import Derived.WalkSpells
import Derived.WalkLawsBesides
import Derived.Deep.QuietTactic
import Derived.BigQuiet
import Derived.OneCell
import Derived.Lib.SmallJoins
import Derived.Lib.QuietBelow
import Derived.Deep.DeepCutAuto
namespace Go.Proofs.Ytlmbkhpbfmkmjaa.CH
open Go.RowKit Go.Joins Go.Sort
set_option linter.unusedVariables false
set_option linter.unusedSimpArgs false
set_option maxRecDepth 100000
/-- What the links say: of the knot and of each number that stands there its neighbours, of one that was cut out that it was. -/
structure Lk (inn : Nat → Bool) (n : Nat) (p q : Nat → Int) : Prop where
  nx : ∀ i, i ≤ n → (i = n ∨ inn i = true) → q i = nxF inn n i
  pv : ∀ i, i ≤ n → (i = n ∨ inn i = true) → p i = dnG inn n i
  out : ∀ i, i < n → inn i = false → p i = -1
/-- The links' block. -/
def LkAt (w : World) (b n : Nat) (p q : Nat → Int) : Prop :=
  ∃ arr : Array Value, w.heap[b]? = some (.cells arr 38 (0, 0)) ∧ ∀ i, i ≤ n → arr[i * 2]? = some (.int .i64 (p i)) ∧ arr[i * 2 + 1]? = some (.int .i64 (q i))
/-- The chain's own block. -/
def ChAt (w : World) (g b n : Nat) (cnt : Int) : Prop := w.heap[g]? = some (.cells #[.slice (some ⟨b, 0, none⟩) (n + 1) (n + 1), .int .i64 cnt] 36 (0, 0))
/-- A chain in memory. -/
structure Ch (w : World) (g b n : Nat) (inn : Nat → Bool) (cnt : Int) : Prop where
  own : ChAt w g b n cnt
  le : n ≤ 1048576
  links : ∃ p q, LkAt w b n p q ∧ Lk inn n p q
theorem Ch.ne {w : World} {g b n : Nat} {inn : Nat → Bool} {cnt : Int} (h : Ch w g b n inn cnt) : g ≠ b := by
  obtain ⟨p, q, ⟨arr, h1, _⟩, _⟩ := h.links
  have h2 := h.own
  unfold ChAt at h2
  intro e
  subst e
  rw [h1] at h2
  injection h2 with h2
  injection h2 with _ h3 _
  exact absurd h3 (by decide)
theorem LkAt.at' {w : World} {b n : Nat} {p q : Nat → Int} (h : LkAt w b n p q) {i : Nat} (hi : i ≤ n) : w.cell? ⟨b, i * 2, none⟩ = some (.int .i64 (p i)) ∧ w.cell? ⟨b, i * 2 + 1, none⟩ = some (.int .i64 (q i)) := by
  obtain ⟨arr, h1, h2⟩ := h
  exact ⟨(cell_of_block h1 (i := i * 2)).trans (h2 i hi).1, (cell_of_block h1 (i := i * 2 + 1)).trans (h2 i hi).2⟩
theorem LkAt.free {w : World} {b n : Nat} {p q : Nat → Int} (h : LkAt w b n p q) (j : Nat) : w.frozen? ⟨b, j, none⟩ = false := by
  obtain ⟨arr, h1, h2⟩ := h
  exact unfrozen_of_block h1 j
theorem LkAt.below {w w' : World} {b n : Nat} {p q : Nat → Int} (h : LkAt w b n p q) (hb : Below w.heap.size w w') : LkAt w' b n p q := by
  obtain ⟨arr, h1, h2⟩ := h
  exact ⟨arr, (hb.block b (Array.getElem?_eq_some_iff.1 h1).1).trans h1, h2⟩
theorem ChAt.below {w w' : World} {g b n : Nat} {cnt : Int} (h : ChAt w g b n cnt) (hb : Below w.heap.size w w') : ChAt w' g b n cnt :=
  (hb.block g (Array.getElem?_eq_some_iff.1 h).1).trans h
theorem Ch.below {w w' : World} {g b n : Nat} {inn : Nat → Bool} {cnt : Int} (h : Ch w g b n inn cnt) (hb : Below w.heap.size w w') : Ch w' g b n inn cnt := by
  obtain ⟨p, q, h1, h2⟩ := h.links
  exact ⟨h.own.below hb, h.le, p, q, h1.below hb, h2⟩
/-- Two blocks lie as they lay. -/
def Kp2 (g b : Nat) (A B : World) : Prop := B.heap[g]? = A.heap[g]? ∧ B.heap[b]? = A.heap[b]?
theorem Ch.kept {w w' : World} {g b n : Nat} {inn : Nat → Bool} {cnt : Int} (h : Ch w g b n inn cnt) (hg : w'.heap[g]? = w.heap[g]?) (hb : w'.heap[b]? = w.heap[b]?) : Ch w' g b n inn cnt := by
  obtain ⟨p, q, ⟨arr, h1, h2⟩, h3⟩ := h.links
  exact ⟨hg.trans h.own, h.le, p, q, ⟨arr, hb.trans h1, h2⟩, h3⟩
theorem knot_any (g b n : Nat) (cnt : Int) (W : World) (h : ChAt W g b n cnt) (hn : n ≤ 1048576) :
    Calls Try.prog 16 #[.pointer (some ⟨g, 0, none⟩)] W fun e w' => e = .returned (.int .i64 (n : Nat)) ∧ w' = W := by
  unfold ChAt at h
  have c0 := cell_of_block h (i := 0)
  clear h
  go_enter Try.func16, Try.ntmps16
  go_wp2_with fail
  go_ret
  exact ⟨by simp, rfl⟩
theorem len_any (g b n : Nat) (cnt : Int) (W : World) (h : ChAt W g b n cnt) :
    Calls Try.prog 11 #[.pointer (some ⟨g, 0, none⟩)] W fun e w' => e = .returned (.int .i64 cnt) ∧ w' = W := by
  unfold ChAt at h
  have c0 := cell_of_block h (i := 1)
  clear h
  go_enter Try.func11, Try.ntmps11
  go_wp2_with fail
  go_ret
  exact ⟨rfl, rfl⟩
/-- What Next and Prev answer of a place: the knot is none. -/
def numF (n : Nat) (i : Int) : Int := if i = n then -1 else i
theorem number_any (g b n : Nat) (cnt i : Int) (W : World) (h : ChAt W g b n cnt) (hn : n ≤ 1048576) :
    Calls Try.prog 15 #[.pointer (some ⟨g, 0, none⟩), .int .i64 i] W fun e w' => e = .returned (.int .i64 (numF n i)) ∧ w' = W := by
  have HK := knot_any g b n cnt W h hn
  clear h
  unfold numF
  by_cases e : i = n
  · rw [if_pos e]
    have d : (i == (n : Int)) = true := by simpa using e
    have HE : Hid (i = n) := e
    clear e
    go_enter Try.func15, Try.ntmps15
    go_wp2_with fail
    refine HK.mono ?_
    rintro e w1 ⟨rfl, he⟩
    obtain rfl := he.symm
    go_wp2_with fail
    go_ret
    exact ⟨rfl, rfl⟩
  · rw [if_neg e]
    have d : (i == (n : Int)) = false := by simpa using e
    clear e
    go_enter Try.func15, Try.ntmps15
    go_wp2_with fail
    refine HK.mono ?_
    rintro e w1 ⟨rfl, he⟩
    obtain rfl := he.symm
    go_wp2_with fail
    go_ret
    exact ⟨rfl, rfl⟩
/-- Does i stand there? -/
def hasB (inn : Nat → Bool) (n : Nat) (i : Int) : Bool := decide (0 ≤ i) && decide (i < n) && inn i.toNat
theorem dn_ne (inn : Nat → Bool) (n i : Nat) : ((dnG inn n i : Nat) : Int) ≠ -1 := by omega
set_option maxHeartbeats 1000000 in
theorem has_any (g b n : Nat) (inn : Nat → Bool) (cnt i : Int) (W : World) (h : Ch W g b n inn cnt) :
    Calls Try.prog 10 #[.pointer (some ⟨g, 0, none⟩), .int .i64 i] W fun e w' => e = .returned (.bool (hasB inn n i)) ∧ w' = W := by
  have HK := knot_any g b n cnt W h.own h.le
  unfold hasB
  by_cases e0 : 0 ≤ i
  · have d0 : decide (0 ≤ i) = true := decide_eq_true e0
    rw [d0]
    by_cases e1 : i < n
    · have d1 : decide (i < (n : Int)) = true := decide_eq_true e1
      rw [d1]
      obtain ⟨k, rfl⟩ : ∃ k : Nat, i = k := ⟨i.toNat, by omega⟩
      have d2 : decide (k < n) = true := decide_eq_true (by omega)
      have d3 : k < n := by omega
      obtain ⟨p, q, hL, hK⟩ := h.links
      have c0 := (hL.at' (i := k) (by omega)).1
      have ho := h.own
      unfold ChAt at ho
      have c1 := cell_of_block ho (i := 0)
      have i0 : 0 ≤ (k : Int) ∧ (k : Int) < (n : Int) + 1 := by omega
      obtain ⟨t, ht⟩ : ∃ t, t = inn k := ⟨_, rfl⟩
      rw [show inn (k : Int).toNat = t by rw [ht]; rfl]
      have hp : (p k != -1) = t := by
        cases hti : inn k with
        | true =>
          rw [hK.pv k (by omega) (.inr hti), ht, hti]
          simp
        | false => rw [hK.out k (by omega) hti, ht, hti]; rfl
      obtain ⟨v, hv⟩ : ∃ v, v = p k := ⟨_, rfl⟩
      rw [← hv] at hp c0
      clear hv ht h hL hK ho e0 e1
      go_enter Try.func10, Try.ntmps10
      go_wp2_with fail
      refine HK.mono ?_
      rintro e w1 ⟨rfl, he⟩
      obtain rfl := he.symm
      go_wp2_with fail
      go_ret
      exact ⟨by simp, rfl⟩
    · have d1 : decide (i < (n : Int)) = false := decide_eq_false e1
      rw [d1]
      clear e1 e0 h
      go_enter Try.func10, Try.ntmps10
      go_wp2_with fail
      refine HK.mono ?_
      rintro e w1 ⟨rfl, he⟩
      obtain rfl := he.symm
      go_wp2_with fail
      go_ret
      exact ⟨by simp, rfl⟩
  · have d0 : decide (0 ≤ i) = false := decide_eq_false e0
    rw [d0]
    clear e0 h HK
    go_enter Try.func10, Try.ntmps10
    go_wp2_with fail
    go_ret
    exact ⟨by simp, rfl⟩
/-- What Next answers. -/
def nextA (inn : Nat → Bool) (n : Nat) (i : Int) : Int := if hasB inn n i then numF n (nxF inn n i.toNat) else -1
def prevA (inn : Nat → Bool) (n : Nat) (i : Int) : Int := if hasB inn n i then numF n (dnG inn n i.toNat) else -1
theorem hasB_true {inn : Nat → Bool} {n : Nat} {i : Int} (h : hasB inn n i = true) : ∃ k : Nat, i = k ∧ k < n ∧ inn k = true := by
  simp only [hasB, Bool.and_eq_true, decide_eq_true_eq] at h
  exact ⟨i.toNat, by omega, by omega, h.2⟩
set_option maxHeartbeats 1000000 in
theorem next_any (g b n : Nat) (inn : Nat → Bool) (cnt i : Int) (W : World) (h : Ch W g b n inn cnt) :
    Calls Try.prog 8 #[.pointer (some ⟨g, 0, none⟩), .int .i64 i] W fun e w' => e = .returned (.int .i64 (nextA inn n i)) ∧ w' = W := by
  have HH := has_any g b n inn cnt i W h
  unfold nextA
  obtain ⟨t, ht⟩ : ∃ t, t = hasB inn n i := ⟨_, rfl⟩
  rw [← ht] at HH ⊢
  cases t with
  | false =>
    simp only [Bool.false_eq_true, if_false]
    clear ht h
    go_enter Try.func8, Try.ntmps8
    go_wp2_with fail
    refine HH.mono ?_
    rintro e w1 ⟨rfl, he⟩
    obtain rfl := he.symm
    go_wp2_with fail
    go_ret
    exact ⟨rfl, rfl⟩
  | true =>
    obtain ⟨k, rfl, hk, hin⟩ := hasB_true ht.symm
    simp only [if_true, Int.toNat_natCast]
    obtain ⟨p, q, hL, hK⟩ := h.links
    have c0 := (hL.at' (i := k) (by omega)).2
    rw [hK.nx k (by omega) (.inr hin)] at c0
    have ho := h.own
    unfold ChAt at ho
    have c1 := cell_of_block ho (i := 0)
    have i0 : 0 ≤ (k : Int) ∧ (k : Int) < (n : Int) + 1 := by omega
    have HN := number_any g b n cnt (nxF inn n k : Nat) W h.own h.le
    obtain ⟨v, hv⟩ : ∃ v, v = nxF inn n k := ⟨_, rfl⟩
    rw [← hv] at HN c0 ⊢
    clear hv ht h hL hK ho hk hin
    go_enter Try.func8, Try.ntmps8
    go_wp2_with fail
    refine HH.mono ?_
    rintro e w1 ⟨rfl, he⟩
    obtain rfl := he.symm
    go_wp2_with fail
    refine HN.mono ?_
    rintro e w1 ⟨rfl, he⟩
    obtain rfl := he.symm
    go_wp2_with fail
    go_ret
    exact ⟨rfl, rfl⟩
set_option maxHeartbeats 1000000 in
theorem prev_any (g b n : Nat) (inn : Nat → Bool) (cnt i : Int) (W : World) (h : Ch W g b n inn cnt) :
    Calls Try.prog 9 #[.pointer (some ⟨g, 0, none⟩), .int .i64 i] W fun e w' => e = .returned (.int .i64 (prevA inn n i)) ∧ w' = W := by
  have HH := has_any g b n inn cnt i W h
  unfold prevA
  obtain ⟨t, ht⟩ : ∃ t, t = hasB inn n i := ⟨_, rfl⟩
  rw [← ht] at HH ⊢
  cases t with
  | false =>
    simp only [Bool.false_eq_true, if_false]
    clear ht h
    go_enter Try.func9, Try.ntmps9
    go_wp2_with fail
    refine HH.mono ?_
    rintro e w1 ⟨rfl, he⟩
    obtain rfl := he.symm
    go_wp2_with fail
    go_ret
    exact ⟨rfl, rfl⟩
  | true =>
    obtain ⟨k, rfl, hk, hin⟩ := hasB_true ht.symm
    simp only [if_true, Int.toNat_natCast]
    obtain ⟨p, q, hL, hK⟩ := h.links
    have c0 := (hL.at' (i := k) (by omega)).1
    rw [hK.pv k (by omega) (.inr hin)] at c0
    have ho := h.own
    unfold ChAt at ho
    have c1 := cell_of_block ho (i := 0)
    have i0 : 0 ≤ (k : Int) ∧ (k : Int) < (n : Int) + 1 := by omega
    have HN := number_any g b n cnt (dnG inn n k : Nat) W h.own h.le
    obtain ⟨v, hv⟩ : ∃ v, v = dnG inn n k := ⟨_, rfl⟩
    rw [← hv] at HN c0 ⊢
    clear hv ht h hL hK ho hk hin
    go_enter Try.func9, Try.ntmps9
    go_wp2_with fail
    refine HH.mono ?_
    rintro e w1 ⟨rfl, he⟩
    obtain rfl := he.symm
    go_wp2_with fail
    refine HN.mono ?_
    rintro e w1 ⟨rfl, he⟩
    obtain rfl := he.symm
    go_wp2_with fail
    go_ret
    exact ⟨rfl, rfl⟩
end Go.Proofs.Ytlmbkhpbfmkmjaa.CH
