/- spans.Right, the document's own Rune and Right: their contracts. -/
import Derived.Test.YtlnebbciefdpoaaDoorSCommon
namespace Go.Proofs.YtlnebbciefdpoaaDoor
open Go.RowKit Go.Sort
theorem badAt_14 {l : List Sp} {k : Nat} {x : Sp} (hx : l[k]? = some x) (h : runeB x.lo = false ∨ runeB x.hi = false) : badAt l k = 14 := by
  unfold badAt; rw [hx]; simp only; rw [if_pos h]
theorem badAt_15a {l : List Sp} {k : Nat} {x : Sp} (hx : l[k]? = some x) (h1 : runeB x.lo = true) (h2 : runeB x.hi = true) (h : x.hi < x.lo) : badAt l k = 15 := by
  unfold badAt; rw [hx]; simp only; rw [if_neg (by rw [h1, h2]; simp), if_pos h]
theorem badAt_15b {l : List Sp} {k : Nat} {x y : Sp} (hx : l[k + 1]? = some x) (hy : l[k]? = some y) (h1 : runeB x.lo = true) (h2 : runeB x.hi = true) (h : x.lo ≤ y.hi) : badAt l (k + 1) = 15 := by
  unfold badAt; rw [hx]; simp only [hy]; rw [if_neg (by rw [h1, h2]; simp)]; split
  · rfl
  · first | rfl | rw [if_pos h]
theorem badAt_0 {l : List Sp} {x : Sp} (hx : l[0]? = some x) (h1 : runeB x.lo = true) (h2 : runeB x.hi = true) (h : ¬ x.hi < x.lo) : badAt l 0 = 0 := by
  unfold badAt; rw [hx]; simp only; rw [if_neg (by rw [h1, h2]; simp), if_neg h]
theorem badAt_s {l : List Sp} {k : Nat} {x y : Sp} (hx : l[k + 1]? = some x) (hy : l[k]? = some y) (h1 : runeB x.lo = true) (h2 : runeB x.hi = true) (h : ¬ x.hi < x.lo) (h' : ¬ x.lo ≤ y.hi) : badAt l (k + 1) = 0 := by
  unfold badAt; rw [hx]; simp only [hy]; rw [if_neg (by rw [h1, h2]; simp), if_neg h, if_neg h']
/-- The rows ahead of k may stand there. -/
def Free (l : List Sp) (k : Nat) : Prop := ∀ j, j < k → badAt l j = 0
theorem Free.zero (l : List Sp) : Free l 0 := fun _ hj => absurd hj (Nat.not_lt_zero _)
theorem Free.succ {l : List Sp} {k : Nat} (h : Free l k) (h0 : badAt l k = 0) : Free l (k + 1) := fun j hj => by
  by_cases e : j = k
  · subst e; exact h0
  · exact h j (by omega)
/-- A right answer, as it is told. -/
def rowV (r : Nat × Nat) : Value := .tuple #[.int .i64 (r.1 : Nat), .int .i64 (r.2 : Nat)]
theorem rowV_at {l : List Sp} {k e : Nat} (hk : k < l.length) (hf : Free l k) (he : badAt l k = e) (h0 : e ≠ 0) : rowV (rightA l) = .tuple #[.int .i64 (k : Nat), .int .i64 (e : Nat)] := by
  rw [rightA_some hk hf (by rw [he]; exact h0), he]; rfl
theorem rowV_none {l : List Sp} (hf : Free l l.length) : rowV (rightA l) = .tuple #[.int .i64 0, .int .i64 0] := by
  rw [rightA_none hf]; rfl
set_option maxHeartbeats 2000000 in
theorem right_any (a : Option Addr) (cap : Nat) (l : List Sp) (w : World) (hlen : l.length ≤ 9223372036854775807) (h : SPS w a l) (hG : GL w) :
    Calls Tryd.prog 79 #[.slice a l.length cap] w fun e w' => e = .returned (rowV (rightA l)) ∧ Below w.heap.size w w' := by
  obtain ⟨n, hn⟩ : ∃ n, n = l.length := ⟨_, rfl⟩
  have HN : Hid (n = l.length) := hn
  rw [← hn] at hlen ⊢
  clear hn
  obtain ⟨R, hR⟩ : ∃ R, R = rowV (rightA l) := ⟨_, rfl⟩
  have HR : Hid (R = rowV (rightA l)) := hR
  rw [← hR]
  clear hR
  go_enter Tryd.func79, Tryd.ntmps79
  go_wp2
  go_loopw [8] (fun i wr => ∃ k : Nat, k ≤ n ∧ i = .int .i64 k ∧ Below w.heap.size w wr ∧ Free l k) (fun i _ => n - (intOf i).toNat)
  case atStart => exact ⟨0, Nat.zero_le _, rfl, Below.refl _ _, Free.zero l⟩
  case round =>
    obtain ⟨k, hk, rfl, hbr, hF⟩ := hrel
    by_cases hlt : k < n
    · have hkl : k < l.length := by rw [← HN.out]; exact hlt
      have hGr := hG.below hbr
      rcases h with h | ⟨b, off, rfl, hc⟩
      · subst h; simp at hkl
      obtain ⟨x, hx⟩ : ∃ x, l[k]? = some x := ⟨l[k], List.getElem?_eq_getElem hkl⟩
      obtain ⟨c0, c1⟩ := (hc k x hx).below hbr
      have HC : Hid (∀ i x, l[i]? = some x → SpAt w b (off + i * 2) x) := hc
      have HX : Hid (l[k]? = some x) := hx
      have hgt : (decide (0 < k)) = decide (0 < k) := rfl
      clear hc hx hG hgt
      go_wp2_with fail
      refine (isRune_any x.lo _ (hGr.below ((Below.refl _ wr).alloc (Nat.le_refl _) _))).mono ?_
      rintro e w1 ⟨rfl, hb1⟩
      have p1 : SpAt w1 wr.heap.size 0 x := SpAt.below ⟨by simp [go_sem], by simp [go_sem]⟩ hb1
      have hG1 := (hGr.below ((Below.refl _ wr).alloc (Nat.le_refl _) _)).below hb1
      have hB1 : Below w.heap.size w w1 := (hbr.alloc hbr.size _).trans (hb1.mono (by simp; have := hbr.size; omega))
      clear hb1 hGr
      obtain ⟨q0, q1⟩ := p1
      rw [Nat.zero_add] at q1
      have RET : ∀ (e : Nat) (W : World), Below w.heap.size w W → badAt l k = e → e ≠ 0 → Hid (R = .tuple #[.int .i64 (k : Nat), .int .i64 (e : Nat)]) := fun e W _ he h0 => by
        rw [HR.out]; exact rowV_at hkl hF he h0
      cases hr1 : runeB x.lo with
      | false =>
        have hE := RET 14 _ hB1 (badAt_14 HX.out (.inl hr1)) (by decide)
        clear hr1 q0 q1 c0 c1 RET
        go_wp2_with fail
        exact bodyPost_ret (v := .tuple #[.int .i64 (k : Nat), .int .i64 14]) (by simp [results, Tryd.results79, go_sem]) rfl ⟨by rw [hE.out]; rfl, hB1⟩
      | true =>
        go_wp2_with fail
        refine (isRune_any x.hi _ hG1).mono ?_
        rintro e w2 ⟨rfl, hb2⟩
        have hB2 := hB1.trans (hb2.mono hB1.size)
        have p2 := SpAt.below (w := w1) (b := wr.heap.size) (off := 0) (x := x) ⟨q0, q1⟩ hb2
        clear q0 q1 c0 c1 hG1
        obtain ⟨q0, q1⟩ := p2
        rw [Nat.zero_add] at q1
        cases hr2 : runeB x.hi with
        | false =>
          have hE := RET 14 _ hB1 (badAt_14 HX.out (.inr hr2)) (by decide)
          clear hr1 hr2 q0 q1 RET
          go_wp2_with fail
          exact bodyPost_ret (v := .tuple #[.int .i64 (k : Nat), .int .i64 14]) (by simp [results, Tryd.results79, go_sem]) rfl ⟨by rw [hE.out]; rfl, hB2⟩
        | true =>
          by_cases hlo : x.hi < x.lo
          · have hE := RET 15 _ hB1 (badAt_15a HX.out hr1 hr2 hlo) (by decide)
            have hd : decide (x.hi < x.lo) = true := decide_eq_true hlo
            clear hr1 hr2 RET hlo
            go_wp2_with fail
            go_quiet (fail)
            go_wp2_with fail
            exact bodyPost_ret (v := .tuple #[.int .i64 (k : Nat), .int .i64 15]) (by simp [results, Tryd.results79, go_sem]) rfl ⟨by rw [hE.out]; rfl, below_drewN hB2 nq⟩
          · have hd : decide (x.hi < x.lo) = false := decide_eq_false hlo
            cases k with
            | zero =>
              have h0 := badAt_0 HX.out hr1 hr2 hlo
              clear hr1 hr2 RET hlo
              go_wp2_with fail
              go_quiet (fail)
              go_wp2_with fail
              exact ⟨⟨1, by omega, rfl, below_drewN hB2 nq, hF.succ h0⟩, by simp only [intOf]; omega⟩
            | succ j =>
              obtain ⟨y, hy⟩ : ∃ y, l[j]? = some y := ⟨l[j], List.getElem?_eq_getElem (by omega)⟩
              obtain ⟨-, y1⟩ := ((HC.out j y hy).below hB2)
              have HY : Hid (l[j]? = some y) := hy
              clear hy
              have hdk : decide (0 < ((j + 1 : Nat) : Int)) = true := by simp
              by_cases hle : x.lo ≤ y.hi
              · have hE := RET 15 _ hB1 (badAt_15b HX.out HY.out hr1 hr2 hle) (by decide)
                have hd2 : decide (x.lo ≤ y.hi) = true := decide_eq_true hle
                clear hr1 hr2 RET hlo hle
                go_wp2_with fail
                go_quiet (fail)
                go_wp2_with fail
                exact bodyPost_ret (v := .tuple #[.int .i64 ((j : Int) + 1), .int .i64 15]) (by simp [results, Tryd.results79, go_sem]) rfl ⟨by rw [hE.out]; rfl, below_drewN hB2 nq⟩
              · have hd2 : decide (x.lo ≤ y.hi) = false := decide_eq_false hle
                have h0 := badAt_s HX.out HY.out hr1 hr2 hlo hle
                clear hr1 hr2 RET hlo hle
                go_wp2_with fail
                go_quiet (fail)
                go_wp2_with fail
                exact ⟨⟨j + 1 + 1, by omega, by go_num, below_drewN hB2 nq, hF.succ h0⟩, by simp only [intOf]; omega⟩
    · have hkn : k = n := by omega
      subst hkn
      rw [HN.out] at hF
      have hE := rowV_none hF
      rw [← HR.out] at hE
      have hE : Hid (R = .tuple #[.int .i64 0, .int .i64 0]) := hE
      go_wp2_with fail
      exact bodyPost_ret (v := .tuple #[.int .i64 0, .int .i64 0]) (by simp [results, Tryd.results79, go_sem]) rfl ⟨by rw [hE.out], hbr⟩
end Go.Proofs.YtlnebbciefdpoaaDoor
