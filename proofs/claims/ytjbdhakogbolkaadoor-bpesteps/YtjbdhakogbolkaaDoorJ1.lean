import Derived.Test.YtjbdhakogbolkaaDoorJ0
import Derived.Lib.SmallJoins
section
/- The document's own Rune and Right: their contracts. -/
namespace Go.Proofs.YtjbdhakogbolkaaDoor
open Go.RowKit Go.Sort
theorem refRune_any (r : Int) (w : World) : Calls Tryd.prog 86 #[.int .i32 r] w fun e w' => e = .returned (.bool (runeB r)) ∧ w' = w := by
  unfold runeB
  by_cases h1 : 0 ≤ r
  · have d1 : decide (0 ≤ r) = true := decide_eq_true h1
    by_cases h2 : r ≤ 1114111
    · have d2 : decide (r ≤ 1114111) = true := decide_eq_true h2
      by_cases h3 : r < 55296
      · have d3 : decide (r < 55296) = true := decide_eq_true h3
        rw [d1, d2, d3]
        go_enter Tryd.func86, Tryd.ntmps86
        go_wp2
        go_ret
        exact ⟨rfl, rfl⟩
      · have d3 : decide (r < 55296) = false := decide_eq_false h3
        by_cases h4 : 57343 < r
        · have d4 : decide (57343 < r) = true := decide_eq_true h4
          rw [d1, d2, d3, d4]
          go_enter Tryd.func86, Tryd.ntmps86
          go_wp2
          go_ret
          exact ⟨rfl, rfl⟩
        · have d4 : decide (57343 < r) = false := decide_eq_false h4
          rw [d1, d2, d3, d4]
          go_enter Tryd.func86, Tryd.ntmps86
          go_wp2
          go_ret
          exact ⟨rfl, rfl⟩
    · have d2 : decide (r ≤ 1114111) = false := decide_eq_false h2
      rw [d1, d2]
      go_enter Tryd.func86, Tryd.ntmps86
      go_wp2
      go_ret
      exact ⟨rfl, rfl⟩
  · have d1 : decide (0 ≤ r) = false := decide_eq_false h1
    rw [d1]
    go_enter Tryd.func86, Tryd.ntmps86
    go_wp2
    go_ret
    exact ⟨rfl, rfl⟩
set_option maxHeartbeats 2000000 in
theorem refRight_any (a : Option Addr) (cap : Nat) (l : List Sp) (w : World) (hlen : l.length ≤ 9223372036854775807) (h : SPS w a l) :
    Calls Tryd.prog 66 #[.slice a l.length cap] w fun e w' => e = .returned (rowV (rightA l)) ∧ Below w.heap.size w w' := by
  obtain ⟨n, hn⟩ : ∃ n, n = l.length := ⟨_, rfl⟩
  have HN : Hid (n = l.length) := hn
  rw [← hn] at hlen ⊢
  clear hn
  obtain ⟨R, hR⟩ : ∃ R, R = rowV (rightA l) := ⟨_, rfl⟩
  have HR : Hid (R = rowV (rightA l)) := hR
  rw [← hR]
  clear hR
  go_enter Tryd.func66, Tryd.ntmps66
  go_wp2
  go_loopw [4] (fun i wr => ∃ k : Nat, k ≤ n ∧ i = .int .i64 k ∧ Below w.heap.size w wr ∧ Free l k) (fun i _ => n - (intOf i).toNat)
  case atStart => exact ⟨0, Nat.zero_le _, rfl, Below.refl _ _, Free.zero l⟩
  case round =>
    obtain ⟨k, hk, rfl, hbr, hF⟩ := hrel
    by_cases hlt : k < n
    · have hkl : k < l.length := by rw [← HN.out]; exact hlt
      rcases h with h | ⟨b, off, rfl, hc⟩
      · subst h; simp at hkl
      obtain ⟨x, hx⟩ : ∃ x, l[k]? = some x := ⟨l[k], List.getElem?_eq_getElem hkl⟩
      obtain ⟨c0, c1⟩ := (hc k x hx).below hbr
      have HC : Hid (∀ i x, l[i]? = some x → SpAt w b (off + i * 2) x) := hc
      have HX : Hid (l[k]? = some x) := hx
      clear hc hx
      go_wp2_with fail
      refine (refRune_any x.lo _).mono ?_
      rintro e w1 ⟨rfl, he⟩
      obtain rfl := he.symm
      have RET : ∀ (e : Nat), badAt l k = e → e ≠ 0 → Hid (R = .tuple #[.int .i64 (k : Nat), .int .i64 (e : Nat)]) := fun e he h0 => by
        rw [HR.out]; exact rowV_at hkl hF he h0
      cases hr1 : runeB x.lo with
      | false =>
        have hE := RET 14 (badAt_14 HX.out (.inl hr1)) (by decide)
        clear hr1 c0 c1 RET
        go_wp2_with fail
        exact bodyPost_ret (v := .tuple #[.int .i64 (k : Nat), .int .i64 14]) (by simp [results, Tryd.results66, go_sem]) rfl ⟨by rw [hE.out]; rfl, hbr⟩
      | true =>
        go_wp2_with fail
        refine (refRune_any x.hi _).mono ?_
        rintro e w2 ⟨rfl, he⟩
        obtain rfl := he.symm
        cases hr2 : runeB x.hi with
        | false =>
          have hE := RET 14 (badAt_14 HX.out (.inr hr2)) (by decide)
          clear hr1 hr2 c0 c1 RET
          go_wp2_with fail
          exact bodyPost_ret (v := .tuple #[.int .i64 (k : Nat), .int .i64 14]) (by simp [results, Tryd.results66, go_sem]) rfl ⟨by rw [hE.out]; rfl, hbr⟩
        | true =>
          by_cases hlo : x.hi < x.lo
          · have hE := RET 15 (badAt_15a HX.out hr1 hr2 hlo) (by decide)
            have hd : decide (x.hi < x.lo) = true := decide_eq_true hlo
            clear hr1 hr2 RET hlo
            go_wp2_with fail
            go_quiet (fail)
            go_wp2_with fail
            exact bodyPost_ret (v := .tuple #[.int .i64 (k : Nat), .int .i64 15]) (by simp [results, Tryd.results66, go_sem]) rfl ⟨by rw [hE.out]; rfl, below_drewN hbr nq⟩
          · have hd : decide (x.hi < x.lo) = false := decide_eq_false hlo
            cases k with
            | zero =>
              have h0 := badAt_0 HX.out hr1 hr2 hlo
              simp only [Nat.zero_mul, Nat.add_zero] at c0 c1
              clear hr1 hr2 RET hlo
              go_wp2_with fail
              go_quiet (fail)
              go_wp2_with fail
              exact ⟨⟨1, by omega, rfl, below_drewN hbr nq, hF.succ h0⟩, by simp only [intOf]; omega⟩
            | succ j =>
              obtain ⟨y, hy⟩ : ∃ y, l[j]? = some y := ⟨l[j], List.getElem?_eq_getElem (by omega)⟩
              obtain ⟨-, y1⟩ := ((HC.out j y hy).below hbr)
              have HY : Hid (l[j]? = some y) := hy
              clear hy
              have hdk : decide (0 < ((j + 1 : Nat) : Int)) = true := by simp
              by_cases hle : x.lo ≤ y.hi
              · have hE := RET 15 (badAt_15b HX.out HY.out hr1 hr2 hle) (by decide)
                have hd2 : decide (x.lo ≤ y.hi) = true := decide_eq_true hle
                clear hr1 hr2 RET hlo hle
                go_wp2_with fail
                go_quiet (fail)
                go_wp2_with fail
                exact bodyPost_ret (v := .tuple #[.int .i64 ((j : Int) + 1), .int .i64 15]) (by simp [results, Tryd.results66, go_sem]) rfl ⟨by rw [hE.out]; rfl, below_drewN hbr nq⟩
              · have hd2 : decide (x.lo ≤ y.hi) = false := decide_eq_false hle
                have h0 := badAt_s HX.out HY.out hr1 hr2 hlo hle
                clear hr1 hr2 RET hlo hle
                go_wp2_with fail
                go_quiet (fail)
                go_wp2_with fail
                exact ⟨⟨j + 1 + 1, by omega, by go_num, below_drewN hbr nq, hF.succ h0⟩, by simp only [intOf]; omega⟩
    · have hkn : k = n := by omega
      subst hkn
      rw [HN.out] at hF
      have hE := rowV_none hF
      rw [← HR.out] at hE
      have hE : Hid (R = .tuple #[.int .i64 0, .int .i64 0]) := hE
      go_wp2_with fail
      exact bodyPost_ret (v := .tuple #[.int .i64 0, .int .i64 0]) (by simp [results, Tryd.results66, go_sem]) rfl ⟨by rw [hE.out], hbr⟩
end Go.Proofs.YtjbdhakogbolkaaDoor
end
section
/- Lists of spans as cells. -/
namespace Go.Proofs.YtjbdhakogbolkaaDoor
open Go.RowKit Go.Sort Go.Joins
/-- A list's cells. -/
def cellsS (l : List Sp) : List Value := l.flatMap fun x => [.int .i32 x.lo, .int .i32 x.hi]
theorem cellsS_length (l : List Sp) : (cellsS l).length = l.length * 2 := by
  induction l with
  | nil => rfl
  | cons x l ih => simp only [cellsS, List.flatMap_cons, List.length_append, List.length_cons] at ih ⊢; rw [ih]; simp; omega
theorem cellsS_get (l : List Sp) (i : Nat) (x : Sp) (h : l[i]? = some x) : (cellsS l)[i * 2]? = some (.int .i32 x.lo) ∧ (cellsS l)[i * 2 + 1]? = some (.int .i32 x.hi) := by
  induction l generalizing i with
  | nil => simp at h
  | cons y l ih =>
    cases i with
    | zero =>
      have : y = x := by simpa using h
      subst this
      exact ⟨rfl, rfl⟩
    | succ i =>
      have := ih i (by simpa using h)
      have e : cellsS (y :: l) = .int .i32 y.lo :: .int .i32 y.hi :: cellsS l := rfl
      rw [e, show (i + 1) * 2 = i * 2 + 1 + 1 by omega, show i * 2 + 1 + 1 + 1 = i * 2 + 1 + 1 + 1 from rfl]
      simpa using this
theorem SPS.of_block {w : World} {g : Nat} {l r : List Sp} {t : TypeId} {fr : Nat × Nat} (h : w.heap[g]? = some (.cells (cellsS (l ++ r)).toArray t fr)) : SPS w (some ⟨g, 0, none⟩) l := by
  refine .inr ⟨g, 0, rfl, fun i x hx => ?_⟩
  have hx' : (l ++ r)[i]? = some x := by
    rw [List.getElem?_append_left (List.getElem?_eq_some_iff.1 hx).1]; exact hx
  obtain ⟨h0, h1⟩ := cellsS_get _ _ _ hx'
  refine ⟨?_, ?_⟩ <;> rw [cell_of_block h, Nat.zero_add] <;> simpa
theorem SPS.new (w : World) (l : List Sp) (t : TypeId) : SPS (w.alloc (.cells (cellsS l).toArray t)) (some ⟨w.heap.size, 0, none⟩) l :=
  SPS.of_block (r := []) (by rw [List.append_nil]; exact heap_alloc_new _ _)
end Go.Proofs.YtjbdhakogbolkaaDoor
end
section
/- classes.tooMany, notRight, over: their contracts. -/
namespace Go.Proofs.YtjbdhakogbolkaaDoor
open Go.RowKit Go.Sort
/-- The value of lists. -/
def lsV (a b c : Option Addr) (na ca nb cb nc cc : Nat) : Value := .agg #[.slice none 0 0, .slice a na ca, .slice b nb cb, .slice c nc cc]
set_option maxHeartbeats 1000000 in
theorem tooMany_any (a b c : Option Addr) (ca cb cc : Nat) (A B C : List Sp) (i : Nat) (hi : i = 1 ∨ i = 2 ∨ i = 3) (w : World) :
    Calls Tryd.prog 79 #[lsV a b c A.length ca B.length cb C.length cc, .int .i64 (i : Nat)] w fun e w' => e = .returned (rowV (ruleA A B C 0 i)) ∧ Below w.heap.size w w' := by
  have hb := fun o => (Below.refl w.heap.size w).alloc (Nat.le_refl _) o
  unfold lsV
  rcases hi with rfl | rfl | rfl
  · show Calls _ _ _ _ fun e w' => e = .returned (rowV (manyA A)) ∧ _
    unfold manyA
    by_cases h : 512 < A.length
    · rw [if_pos h]
      have hd : decide ((512 : Int) < (A.length : Int)) = true := decide_eq_true (by omega)
      go_enter Tryd.func79, Tryd.ntmps79
      go_wp2
      exact bodyPost_ret (v := rowV (512, 4)) (by simp [results, Tryd.results79, go_sem, rowV]) rfl ⟨rfl, hb _⟩
    · rw [if_neg h]
      have hd : decide ((512 : Int) < (A.length : Int)) = false := decide_eq_false (by omega)
      go_enter Tryd.func79, Tryd.ntmps79
      go_wp2
      exact bodyPost_ret (v := rowV (0, 0)) (by simp [results, Tryd.results79, go_sem, rowV]) rfl ⟨rfl, hb _⟩
  · show Calls _ _ _ _ fun e w' => e = .returned (rowV (manyA B)) ∧ _
    unfold manyA
    by_cases h : 512 < B.length
    · rw [if_pos h]
      have hd : decide ((512 : Int) < (B.length : Int)) = true := decide_eq_true (by omega)
      go_enter Tryd.func79, Tryd.ntmps79
      go_wp2
      exact bodyPost_ret (v := rowV (512, 4)) (by simp [results, Tryd.results79, go_sem, rowV]) rfl ⟨rfl, hb _⟩
    · rw [if_neg h]
      have hd : decide ((512 : Int) < (B.length : Int)) = false := decide_eq_false (by omega)
      go_enter Tryd.func79, Tryd.ntmps79
      go_wp2
      exact bodyPost_ret (v := rowV (0, 0)) (by simp [results, Tryd.results79, go_sem, rowV]) rfl ⟨rfl, hb _⟩
  · show Calls _ _ _ _ fun e w' => e = .returned (rowV (manyA C)) ∧ _
    unfold manyA
    by_cases h : 512 < C.length
    · rw [if_pos h]
      have hd : decide ((512 : Int) < (C.length : Int)) = true := decide_eq_true (by omega)
      go_enter Tryd.func79, Tryd.ntmps79
      go_wp2
      exact bodyPost_ret (v := rowV (512, 4)) (by simp [results, Tryd.results79, go_sem, rowV]) rfl ⟨rfl, hb _⟩
    · rw [if_neg h]
      have hd : decide ((512 : Int) < (C.length : Int)) = false := decide_eq_false (by omega)
      go_enter Tryd.func79, Tryd.ntmps79
      go_wp2
      exact bodyPost_ret (v := rowV (0, 0)) (by simp [results, Tryd.results79, go_sem, rowV]) rfl ⟨rfl, hb _⟩
/-- A list that was handed in. -/
structure Lst (w : World) (a : Option Addr) (c : Nat) (l : List Sp) : Prop where
  le : l.length ≤ c
  cap : c ≤ 9223372036854775807
  at' : SPS w a l
theorem Lst.below {w w' : World} {a : Option Addr} {c : Nat} {l : List Sp} (h : Lst w a c l) (hb : Below w.heap.size w w') : Lst w' a c l := ⟨h.le, h.cap, h.at'.below hb⟩
theorem Lst.len {w : World} {a : Option Addr} {c : Nat} {l : List Sp} (h : Lst w a c l) : l.length ≤ 9223372036854775807 := Nat.le_trans h.le h.cap
set_option maxHeartbeats 1000000 in
theorem notRight_any (a b c : Option Addr) (ca cb cc : Nat) (A B C : List Sp) (i : Nat) (hi : i = 1 ∨ i = 2 ∨ i = 3) (w : World) (hA : Lst w a ca A) (hB : Lst w b cb B) (hC : Lst w c cc C) (hG : GL w) :
    Calls Tryd.prog 80 #[lsV a b c A.length ca B.length cb C.length cc, .int .i64 (i : Nat)] w fun e w' => e = .returned (rowV (ruleA A B C 1 i)) ∧ Below w.heap.size w w' := by
  have hb := fun o => (Below.refl w.heap.size w).alloc (Nat.le_refl _) o
  unfold lsV
  have HA := fun wx (h : Lst wx a ca A) (hg : GL wx) => right_any a ca A wx h.len h.at' hg
  have HB := fun wx (h : Lst wx b cb B) (hg : GL wx) => right_any b cb B wx h.len h.at' hg
  have HC := fun wx (h : Lst wx c cc C) (hg : GL wx) => right_any c cc C wx h.len h.at' hg
  unfold rowV at HA HB HC
  rcases hi with rfl | rfl | rfl
  · show Calls _ _ _ _ fun e w' => e = .returned (.tuple #[.int .i64 ((rightA A).1 : Nat), .int .i64 ((rightA A).2 : Nat)]) ∧ _
    obtain ⟨⟨p, e⟩, hm⟩ : ∃ m, m = rightA A := ⟨_, rfl⟩
    rw [← hm] at HA ⊢
    clear hm HB HC
    go_enter Tryd.func80, Tryd.ntmps80
    go_wp2_with fail
    refine (HA _ (hA.below (hb _)) (hG.below (hb _))).mono ?_
    rintro e w1 ⟨rfl, hb1⟩
    go_wp2_with fail
    exact bodyPost_ret (v := rowV (_, _)) (by simp [results, Tryd.results80, go_sem, rowV]) rfl ⟨rfl, (hb _).trans (hb1.mono (hb _).size)⟩
  · show Calls _ _ _ _ fun e w' => e = .returned (.tuple #[.int .i64 ((rightA B).1 : Nat), .int .i64 ((rightA B).2 : Nat)]) ∧ _
    obtain ⟨⟨p, e⟩, hm⟩ : ∃ m, m = rightA B := ⟨_, rfl⟩
    rw [← hm] at HB ⊢
    clear hm HA HC
    go_enter Tryd.func80, Tryd.ntmps80
    go_wp2_with fail
    refine (HB _ (hB.below (hb _)) (hG.below (hb _))).mono ?_
    rintro e w1 ⟨rfl, hb1⟩
    go_wp2_with fail
    exact bodyPost_ret (v := rowV (_, _)) (by simp [results, Tryd.results80, go_sem, rowV]) rfl ⟨rfl, (hb _).trans (hb1.mono (hb _).size)⟩
  · show Calls _ _ _ _ fun e w' => e = .returned (.tuple #[.int .i64 ((rightA C).1 : Nat), .int .i64 ((rightA C).2 : Nat)]) ∧ _
    obtain ⟨⟨p, e⟩, hm⟩ : ∃ m, m = rightA C := ⟨_, rfl⟩
    rw [← hm] at HC ⊢
    clear hm HA HB
    go_enter Tryd.func80, Tryd.ntmps80
    go_wp2_with fail
    refine (HC _ (hC.below (hb _)) (hG.below (hb _))).mono ?_
    rintro e w1 ⟨rfl, hb1⟩
    go_wp2_with fail
    exact bodyPost_ret (v := rowV (_, _)) (by simp [results, Tryd.results80, go_sem, rowV]) rfl ⟨rfl, (hb _).trans (hb1.mono (hb _).size)⟩
end Go.Proofs.YtjbdhakogbolkaaDoor
end
section
/- classes.over: its contract. -/
namespace Go.Proofs.YtjbdhakogbolkaaDoor
open Go.RowKit Go.Sort Go.Joins
def adL (a b c : Option Addr) : Nat → Option Addr
  | 1 => a
  | 2 => b
  | 3 => c
  | _ => none
def cpL (a b c : Nat) : Nat → Nat
  | 1 => a
  | 2 => b
  | 3 => c
  | _ => 0
/-- The four lists. -/
theorem four {w : World} {a b c : Option Addr} {ca cb cc : Nat} {A B C : List Sp} (hA : Lst w a ca A) (hB : Lst w b cb B) (hC : Lst w c cc C) (j : Nat) : Lst w (adL a b c j) (cpL ca cb cc j) (pickL A B C j) := by
  match j with
  | 0 => exact ⟨Nat.le_refl _, by show 0 ≤ _; omega, .inl rfl⟩
  | 1 => exact hA
  | 2 => exact hB
  | 3 => exact hC
  | _ + 4 => exact ⟨Nat.le_refl _, by show 0 ≤ _; omega, .inl rfl⟩
/-- The four cells. -/
def Four (w : World) (b0 : Nat) (a b c : Option Addr) (ca cb cc : Nat) (A B C : List Sp) : Prop := ∀ j, j < 4 → w.cell? ⟨b0, j, none⟩ = some (.slice (adL a b c j) (pickL A B C j).length (cpL ca cb cc j))
theorem Four.below {w w' : World} {b0 : Nat} {a b c : Option Addr} {ca cb cc : Nat} {A B C : List Sp} (h : Four w b0 a b c ca cb cc A B C) (hb : Below w.heap.size w w') : Four w' b0 a b c ca cb cc A B C := fun j hj =>
  (hb.cell (World.block_lt_of_cell? w _ (h j hj))).trans (h j hj)
theorem Four.new (w : World) (a b c : Option Addr) (ca cb cc : Nat) (A B C : List Sp) (t : TypeId) : Four (w.alloc (.cells #[.slice none 0 0, .slice a A.length ca, .slice b B.length cb, .slice c C.length cc] t)) w.heap.size a b c ca cb cc A B C := fun j hj => by
  rw [cell_of_block (heap_alloc_new w _)]
  rcases (show j = 0 ∨ j = 1 ∨ j = 2 ∨ j = 3 by omega) with rfl | rfl | rfl | rfl <;> rfl
theorem ahead_get (A B C : List Sp) {i j : Nat} (hj : j < i) (hi : i ≤ 3) : (ahead A B i)[j]? = some (pickL A B C j) := by
  unfold ahead
  rw [List.getElem?_take_of_lt hj]
  rcases (show j = 0 ∨ j = 1 ∨ j = 2 by omega) with rfl | rfl | rfl <;> rfl
theorem ahead_len (A B : List Sp) {i : Nat} (hi : i ≤ 3) : (ahead A B i).length = i := by
  unfold ahead
  simp
  omega
theorem slice_four (W : World) (g i : Nat) (hi : 1 ≤ i) (hi3 : i ≤ 3) : (Instr.sliceAt 127 (.pointer (some ⟨g, 0, none⟩)) none (some (.int .i64 (i : Nat))) none).run Tryd.prog W = .ok (.slice (some ⟨g, 0, none⟩) i 4) W := by
  rcases (show i = 1 ∨ i = 2 ∨ i = 3 by omega) with rfl | rfl | rfl <;> kernel_rfl
def posI (f : Int) : Int := if f < 0 then 0 else f
theorem posI_pos {f : Int} (h : 0 ≤ f) : posI f = f := by unfold posI; rw [if_neg (by omega)]
set_option maxRecDepth 100000 in
set_option maxHeartbeats 2000000 in
theorem over_any (a b c : Option Addr) (ca cb cc : Nat) (A B C : List Sp) (i : Nat) (hi : 1 ≤ i) (hi3 : i ≤ 3) (w : World) (hA : Lst w a ca A) (hB : Lst w b cb B) (hC : Lst w c cc C) (hRA : Rgt A) (hRB : Rgt B) (hRC : Rgt C) (hG : GL w) :
    Calls Tryd.prog 81 #[lsV a b c A.length ca B.length cb C.length cc, .int .i64 (i : Nat)] w fun e w' => e = .returned (rowV (ruleA A B C 2 i)) ∧ Below w.heap.size w w' := by
  have hb0 : Below w.heap.size w (w.alloc (.cells #[.slice none 0 0, .slice a A.length ca, .slice b B.length cb, .slice c C.length cc] 127)) := (Below.refl w.heap.size w).alloc (Nat.le_refl _) _
  have hF := Four.new w a b c ca cb cc A B C 127
  have hL := four hA hB hC
  have hR : ∀ j, Rgt (pickL A B C j) := fun j => by
    unfold pickL
    split
    · exact hRA
    · exact hRB
    · exact hRC
    · exact rightA_zero rfl
  have HM := fun (j : Nat) (wx : World) (h1 : Lst wx (adL a b c i) (cpL ca cb cc i) (pickL A B C i)) (h2 : Lst wx (adL a b c j) (cpL ca cb cc j) (pickL A B C j)) (hg : GL wx) => meet_any (adL a b c i) (adL a b c j) (cpL ca cb cc i) (cpL ca cb cc j) (pickL A B C i) (pickL A B C j) wx h1.len h2.len h1.at' h2.at' (hR i) (hR j) hg
  have hL0 := fun j => (hL j).below hb0
  have hG0 := hG.below hb0
  obtain ⟨Rr, hRr⟩ : ∃ R, R = ruleA A B C 2 i := ⟨_, rfl⟩
  rw [← hRr]
  have HRr : Hid (Rr = overA (pickL A B C i) (ahead A B i)) := hRr
  have hAt := fun {j : Nat} (hj : j < i) => ahead_get A B C hj hi3
  have hAl := ahead_len A B hi3
  have hsl := fun W g => slice_four W g i hi hi3
  clear hRr hA hB hC hRA hRB hRC hG hL hR
  unfold lsV
  go_enter Tryd.func81, Tryd.ntmps81
  go_wp2_with fail
  have hFi := hF i (by omega)
  have hLi := hL0 i
  obtain ⟨W0, hW0⟩ : ∃ W0, W0 = w.alloc (.cells #[.slice none 0 0, .slice a A.length ca, .slice b B.length cb, .slice c C.length cc] 127) := ⟨_, rfl⟩
  rw [← hW0] at hb0 hF hL0 hG0 hFi hLi ⊢
  clear hW0
  obtain ⟨Bx, hBx⟩ : ∃ Bx, Bx = w.heap.size := ⟨_, rfl⟩
  have HBx : Hid (Bx = w.heap.size) := hBx
  rw [← hBx] at hF hFi ⊢
  clear hBx
  obtain ⟨X, hX⟩ : ∃ X, X = pickL A B C i := ⟨_, rfl⟩
  obtain ⟨ax, hax⟩ : ∃ ax, ax = adL a b c i := ⟨_, rfl⟩
  obtain ⟨cx, hcx⟩ : ∃ cx, cx = cpL ca cb cc i := ⟨_, rfl⟩
  rw [← hX] at HRr hLi HM hFi
  rw [← hax] at hLi HM hFi
  rw [← hcx] at hLi HM hFi
  clear hX hax hcx
  obtain ⟨L, hL⟩ : ∃ L, L = ahead A B i := ⟨_, rfl⟩
  rw [← hL] at HRr hAt hAl
  clear hL
  go_loopw [6, 7, 15] (fun f m v wr => ∃ (j : Nat) (F : Int), j ≤ i ∧ F = ovI X (L.take j) ∧ -1 ≤ F ∧ v = .int .i64 (j : Nat) ∧ f = .int .i64 (posI F) ∧ m = .bool (decide (0 ≤ F)) ∧ Below W0.heap.size W0 wr) (fun _ _ v _ => i - (intOf v).toNat)
  case atStart => exact ⟨0, -1, Nat.zero_le _, rfl, Int.le_refl _, rfl, rfl, rfl, Below.refl _ _⟩
  case round =>
    obtain ⟨j, F, hj, hF0, hF1, rfl, rfl, rfl, hbr⟩ := hrel
    have HF0 : Hid (F = ovI X (L.take j)) := hF0
    clear hF0
    by_cases hlt : j < i
    · have hFj := (hF j (by omega))
      have hFj := (hbr.cell (World.block_lt_of_cell? W0 _ hFj)).trans hFj
      have hFi := (hbr.cell (World.block_lt_of_cell? W0 _ hFi)).trans hFi
      have hLi := hLi.below hbr
      have hLj := (hL0 j).below hbr
      have hGr := hG0.below hbr
      have HM := HM j
      have hS := ovI_take (X := X) (hAt hlt)
      rw [← HF0.out] at hS
      unfold ovS at hS
      obtain ⟨Y, hY⟩ : ∃ Y, Y = pickL A B C j := ⟨_, rfl⟩
      obtain ⟨ay, hay⟩ : ∃ ay, ay = adL a b c j := ⟨_, rfl⟩
      obtain ⟨cy, hcy⟩ : ∃ cy, cy = cpL ca cb cc j := ⟨_, rfl⟩
      rw [← hY] at hLj HM hFj hS
      rw [← hay] at hLj HM hFj
      rw [← hcy] at hLj HM hFj
      clear hY hay hcy hF hL0 hG0 hAt hAl
      unfold meetV at HM
      obtain ⟨⟨p, m⟩, hm⟩ : ∃ m, m = meetA X Y := ⟨_, rfl⟩
      rw [← hm] at HM hS
      clear hm
      have HS : Hid (ovI X (L.take (j + 1)) = if m = true ∧ (F < 0 ∨ (p : Int) < F) then (p : Int) else F) := hS
      clear hS
      go_wp2_with fail
      refine (HM _ hLi hLj hGr).mono ?_
      rintro e w1 ⟨rfl, hb1⟩
      have B1 := hbr.trans (hb1.mono hbr.size)
      clear HM hLi hLj hGr hFi hFj hb1
      cases m with
      | false =>
        have h1 := HS.out
        simp only [Bool.false_eq_true, false_and, if_false] at h1
        have HS1 : Hid (F = ovI X (L.take (j + 1))) := h1.symm
        clear h1 HS
        go_wp2_with fail
        exact ⟨⟨j + 1, F, by omega, HS1.out, hF1, by go_num, rfl, rfl, B1⟩, by simp only [intOf]; omega⟩
      | true =>
        by_cases hn : F < 0
        · have h1 := HS.out
          simp only [true_and] at h1
          rw [if_pos (.inl hn)] at h1
          have HS1 : Hid ((p : Int) = ovI X (L.take (j + 1))) := h1.symm
          have hd : decide (0 ≤ F) = false := decide_eq_false (by omega)
          clear h1 HS
          go_wp2_with fail
          exact ⟨⟨j + 1, p, by omega, HS1.out, by omega, by go_num, by rw [posI_pos (by omega)], by simp, B1⟩, by simp only [intOf]; omega⟩
        · have hd : decide (0 ≤ F) = true := decide_eq_true (by omega)
          rw [posI_pos (by omega)]
          by_cases hp : (p : Int) < F
          · have h1 := HS.out
            simp only [true_and] at h1
            rw [if_pos (.inr hp)] at h1
            have HS1 : Hid ((p : Int) = ovI X (L.take (j + 1))) := h1.symm
            have hdp : decide ((p : Int) < F) = true := decide_eq_true hp
            clear h1 HS
            go_wp2_with fail
            exact ⟨⟨j + 1, p, by omega, HS1.out, by omega, by go_num, by rw [posI_pos (by omega)], by simp, B1⟩, by simp only [intOf]; omega⟩
          · have h1 := HS.out
            simp only [true_and] at h1
            rw [if_neg (by omega)] at h1
            have HS1 : Hid (F = ovI X (L.take (j + 1))) := h1.symm
            have hdp : decide ((p : Int) < F) = false := decide_eq_false hp
            clear h1 HS
            go_wp2_with fail
            exact ⟨⟨j + 1, F, by omega, HS1.out, hF1, by go_num, by rw [posI_pos (by omega)], by simp [hd], B1⟩, by simp only [intOf]; omega⟩
    · have hij : j = i := by omega
      subst hij
      have hT := HF0.out
      rw [List.take_of_length_le (by omega)] at hT
      have HT : Hid (F = ovI X L) := hT
      clear hT hF hL0 hG0 hAt hAl hFi hLi HM
      by_cases hn : F < 0
      · have hd : decide (0 ≤ F) = false := decide_eq_false (by omega)
        have hE : Hid (Rr = (0, 0)) := by show Rr = _; rw [HRr.out]; unfold overA; rw [← HT.out, if_pos hn]
        clear hn
        rw [hd]
        go_wp2_with fail
        exact bodyPost_ret (v := rowV (0, 0)) (by simp [results, Tryd.results81, go_sem, rowV]) rfl ⟨by rw [hE.out], hb0.trans (hbr.mono hb0.size)⟩
      · have hd : decide (0 ≤ F) = true := decide_eq_true (by omega)
        have hE : Hid (Rr = (F.toNat, 16)) := by show Rr = _; rw [HRr.out]; unfold overA; rw [← HT.out, if_neg hn]
        rw [posI_pos (by omega), hd]
        go_wp2_with fail
        exact bodyPost_ret (v := .tuple #[.int .i64 F, .int .i64 16]) (by simp [results, Tryd.results81, go_sem]) rfl ⟨by rw [hE.out]; simp [rowV]; omega, hb0.trans (hbr.mono hb0.size)⟩
end Go.Proofs.YtjbdhakogbolkaaDoor
end
section
/- spans.In and the document's own: their contracts. -/
namespace Go.Proofs.YtjbdhakogbolkaaDoor
open Go.RowKit Go.Sort
def lies (l : List Sp) (r : Int) : Bool := l.any fun x => decide (x.lo ≤ r) && decide (r ≤ x.hi)
theorem inB_eq (l : List Sp) (r : Int) : inB l r = (runeB r && lies l r) := rfl
theorem lies_true {l : List Sp} {r : Int} {i : Nat} {x : Sp} (hx : l[i]? = some x) (h1 : x.lo ≤ r) (h2 : r ≤ x.hi) : lies l r = true := by
  unfold lies
  rw [List.any_eq_true]
  exact ⟨x, List.mem_of_getElem? hx, by simp [h1, h2]⟩
theorem lies_false {l : List Sp} {r : Int} (h : ∀ (i : Nat) (x : Sp), l[i]? = some x → ¬ (x.lo ≤ r ∧ r ≤ x.hi)) : lies l r = false := by
  cases hl : lies l r with
  | false => rfl
  | true =>
    unfold lies at hl
    rw [List.any_eq_true] at hl
    obtain ⟨x, hx, h2⟩ := hl
    obtain ⟨i, hi⟩ := List.getElem?_of_mem hx
    simp at h2
    exact absurd h2 (h i x hi)
/-- A slice's length. -/
def lenV : Value → Nat
  | .slice _ n _ => n
  | _ => 0
/-- No span but those from lo on, m of them, can hold r. -/
def Left (l : List Sp) (r : Int) (lo m : Nat) : Prop := ∀ (i : Nat) (x : Sp), l[i]? = some x → (i < lo ∨ lo + m ≤ i) → ¬ (x.lo ≤ r ∧ r ≤ x.hi)
theorem Left.low {l : List Sp} {r : Int} {lo m k : Nat} {x : Sp} (h : Left l r lo m) (hR : Rgt l) (hx : l[lo + k]? = some x) (hr : r < x.lo) : Left l r lo k := by
  intro i y hy hi
  by_cases e : i = lo + k
  · subst e
    rw [hx] at hy
    cases hy
    omega
  · by_cases h1 : i < lo
    · exact h i y hy (.inl h1)
    · have h2 := hR.rise (show lo + k < i by omega) hx hy
      have h3 := (hR.row hx).2.2
      omega
theorem Left.high {l : List Sp} {r : Int} {lo m k : Nat} {x : Sp} (h : Left l r lo m) (hR : Rgt l) (hx : l[lo + k]? = some x) (hk : k < m) (hr : x.hi < r) : Left l r (lo + k + 1) (m - (k + 1)) := by
  intro i y hy hi
  by_cases e : i = lo + k
  · subst e
    rw [hx] at hy
    cases hy
    omega
  · by_cases h1 : i < lo + k
    · have h2 := hR.rise h1 hy hx
      have h3 := (hR.row hx).2.2
      omega
    · exact h i y hy (.inr (by omega))
set_option maxHeartbeats 2000000 in
theorem in_any (a : Option Addr) (cap : Nat) (l : List Sp) (r : Int) (w : World) (hlen : l.length ≤ cap) (hcap : cap ≤ 9223372036854775807) (h : SPS w a l) (hR : Rgt l) (hG : GL w) :
    Calls Tryd.prog 95 #[.slice a l.length cap, .int .i32 r] w fun e w' => e = .returned (.bool (inB l r)) ∧ Below w.heap.size w w' := by
  obtain ⟨B, hB⟩ : ∃ B, B = inB l r := ⟨_, rfl⟩
  have HB : Hid (B = inB l r) := hB
  rw [← hB]
  clear hB
  have HL : Hid (l.length ≤ cap) := hlen
  obtain ⟨n, hn⟩ : ∃ n, n = l.length := ⟨_, rfl⟩
  have HN : Hid (n = l.length) := hn
  rw [← hn] at hlen ⊢
  clear hn
  go_enter Tryd.func95, Tryd.ntmps95
  go_wp2_with fail
  refine (isRune_any r _ hG).mono ?_
  rintro e w1 ⟨rfl, hb1⟩
  cases hr : runeB r with
  | false =>
    have hE : B = false := by rw [HB.out, inB_eq, hr]; rfl
    subst hE
    clear hr
    go_wp2_with fail
    go_ret
    exact ⟨rfl, hb1⟩
  | true =>
    have HE : Hid (B = lies l r) := by show B = lies l r; rw [HB.out, inB_eq, hr]; rfl
    clear hr HB
    go_wp2_with fail
    go_loopw [0] (fun v wr => ∃ (p : Option Addr) (lo m cp : Nat), v = .slice p m cp ∧ m ≤ cp ∧ cp ≤ cap ∧ lo + m ≤ n ∧ (0 < m → ∃ b off, p = some ⟨b, off + lo * 2, none⟩ ∧ ∀ i x, l[i]? = some x → SpAt w b (off + i * 2) x) ∧ Left l r lo m ∧ Below w.heap.size w wr) (fun v _ => lenV v)
    case atStart => 
      refine ⟨a, 0, n, cap, rfl, hlen, Nat.le_refl _, by omega, fun h0 => ?_, fun i x hx hi => ?_, hb1⟩
      · rcases h with h | ⟨b, off, h1, h2⟩
        · rw [HN.out, h] at h0; simp at h0
        · exact ⟨b, off, by rw [h1]; simp, h2⟩
      · have := (List.getElem?_eq_some_iff.1 hx).1
        rw [← HN.out] at this
        omega
    case round =>
      obtain ⟨p, lo, m, cp, rfl, hm, hcp, hlm, hp, hL, hbr⟩ := hrel
      clear h
      by_cases h0 : 0 < m
      · obtain ⟨b, off, rfl, hc⟩ := hp h0
        obtain ⟨k, hk⟩ : ∃ k, k = m / 2 := ⟨_, rfl⟩
        have hkm : k < m := by omega
        have hq : (m : Int) / 2 = (k : Int) := by omega
        obtain ⟨x, hx⟩ : ∃ x, l[lo + k]? = some x := ⟨_, List.getElem?_eq_getElem (by rw [← HN.out]; omega)⟩
        obtain ⟨c0, c1⟩ := (hc _ x hx).below hbr
        rw [show off + (lo + k) * 2 = off + lo * 2 + k * 2 by omega] at c0 c1
        have HX : Hid (l[lo + k]? = some x) := hx
        have HC : Hid (∀ i x, l[i]? = some x → SpAt w b (off + i * 2) x) := hc
        have HK : Hid (k = m / 2) := hk
        clear hp hc hx hk
        have hd0 : decide (0 < (m : Int)) = true := by simp; omega
        by_cases h1 : r < x.lo
        · have d1 : decide (r < x.lo) = true := decide_eq_true h1
          go_wp2_with fail
          exact ⟨⟨_, lo, k, cp, rfl, by omega, hcp, by omega, fun _ => ⟨b, off, rfl, HC.out⟩, hL.low hR HX.out h1, hbr.alloc hbr.size _⟩, by simp only [lenV]; omega⟩
        · have d1 : decide (r < x.lo) = false := decide_eq_false h1
          by_cases h2 : x.hi < r
          · have d2 : decide (x.hi < r) = true := decide_eq_true h2
            by_cases h3 : cp = k + 1
            · subst h3
              go_wp2_with fail
              refine ⟨⟨_, lo + k + 1, 0, 0, rfl, Nat.le_refl _, by omega, by omega, fun h => absurd h (by omega), ?_, hbr.alloc hbr.size _⟩, by simp only [lenV]; omega⟩
              have := hL.high hR HX.out hkm h2
              rw [show m - (k + 1) = 0 by omega] at this
              exact this
            · go_wp2_with fail
              exact ⟨⟨_, lo + k + 1, m - (k + 1), cp - (k + 1), rfl, by omega, by omega, by omega, fun _ => ⟨b, off, by rw [show off + (lo + k + 1) * 2 = off + lo * 2 + (k + 1) * 2 by omega], HC.out⟩, hL.high hR HX.out hkm h2, hbr.alloc hbr.size _⟩, by simp only [lenV]; omega⟩
          · have d2 : decide (x.hi < r) = false := decide_eq_false h2
            go_wp2_with fail
            have hE : B = true := by rw [HE.out]; exact lies_true HX.out (by omega) (by omega)
            subst hE
            go_ret
            exact ⟨rfl, hbr.alloc hbr.size _⟩
      · have hm0 : m = 0 := by omega
        subst hm0
        have hE : B = false := by rw [HE.out]; exact lies_false fun i x hx => hL i x hx (by omega)
        subst hE
        clear hp
        go_wp2_with fail
        go_ret
        exact ⟨rfl, hbr⟩
end Go.Proofs.YtjbdhakogbolkaaDoor
end
section
/- The document's own In: its contract. -/
namespace Go.Proofs.YtjbdhakogbolkaaDoor
open Go.RowKit Go.Sort
set_option maxHeartbeats 2000000 in
theorem refIn_any (a : Option Addr) (cap : Nat) (l : List Sp) (r : Int) (w : World) (hlen : l.length ≤ 9223372036854775807) (h : SPS w a l) :
    Calls Tryd.prog 68 #[.slice a l.length cap, .int .i32 r] w fun e w' => e = .returned (.bool (inB l r)) ∧ Below w.heap.size w w' := by
  obtain ⟨B, hB⟩ : ∃ B, B = inB l r := ⟨_, rfl⟩
  have HB : Hid (B = inB l r) := hB
  rw [← hB]
  clear hB
  obtain ⟨n, hn⟩ : ∃ n, n = l.length := ⟨_, rfl⟩
  have HN : Hid (n = l.length) := hn
  rw [← hn] at hlen ⊢
  clear hn
  go_enter Tryd.func68, Tryd.ntmps68
  go_wp2
  go_loopw [5] (fun i wr => ∃ k : Nat, k ≤ n ∧ i = .int .i64 k ∧ wr = w ∧ ∀ (i : Nat) (x : Sp), l[i]? = some x → i < k → ¬ (x.lo ≤ r ∧ r ≤ x.hi)) (fun i _ => n - (intOf i).toNat)
  case atStart => exact ⟨0, Nat.zero_le _, rfl, rfl, fun i x _ hi => absurd hi (Nat.not_lt_zero _)⟩
  case round =>
    obtain ⟨k, hk, rfl, rfl, hF⟩ := hrel
    by_cases hlt : k < n
    · have hkl : k < l.length := by rw [← HN.out]; exact hlt
      rcases h with h | ⟨b, off, rfl, hc⟩
      · subst h; simp at hkl
      obtain ⟨x, hx⟩ : ∃ x, l[k]? = some x := ⟨l[k], List.getElem?_eq_getElem hkl⟩
      obtain ⟨c0, c1⟩ := hc k x hx
      have HX : Hid (l[k]? = some x) := hx
      have next : ¬ (x.lo ≤ r ∧ r ≤ x.hi) → ∀ (i : Nat) (y : Sp), l[i]? = some y → i < k + 1 → ¬ (y.lo ≤ r ∧ r ≤ y.hi) := fun hn i y hy hi => by
        by_cases e : i = k
        · subst e
          have := HX.out.symm.trans hy
          cases this
          exact hn
        · exact hF i y hy (by omega)
      clear hc hx
      by_cases h1 : x.lo ≤ r
      · have d1 : decide (x.lo ≤ r) = true := decide_eq_true h1
        by_cases h2 : r ≤ x.hi
        · have d2 : decide (r ≤ x.hi) = true := decide_eq_true h2
          have hE : B = runeB r := by rw [HB.out, inB_eq, lies_true HX.out h1 h2, Bool.and_true]
          have hE : Hid (B = runeB r) := hE
          clear next
          go_wp2_with fail
          refine (refRune_any r _).mono ?_
          rintro e w1 ⟨rfl, he⟩
          obtain rfl := he.symm
          go_wp2_with fail
          go_ret
          exact ⟨by rw [hE.out]; rfl, Below.refl _ _⟩
        · have d2 : decide (r ≤ x.hi) = false := decide_eq_false h2
          go_wp2_with fail
          exact ⟨⟨k + 1, by omega, by go_num, trivial, next (fun h => h2 h.2)⟩, by simp only [intOf]; omega⟩
      · have d1 : decide (x.lo ≤ r) = false := decide_eq_false h1
        go_wp2_with fail
        exact ⟨⟨k + 1, by omega, by go_num, trivial, next (fun h => h1 h.1)⟩, by simp only [intOf]; omega⟩
    · have hkn : k = n := by omega
      subst hkn
      have hE : B = false := by
        rw [HB.out, inB_eq, lies_false (fun i x hx => hF i x hx (by rw [HN.out]; exact (List.getElem?_eq_some_iff.1 hx).1)), Bool.and_false]
      subst hE
      go_wp2_with fail
      go_ret
      exact ⟨rfl, Below.refl _ _⟩
end Go.Proofs.YtjbdhakogbolkaaDoor
end
section
/- classes.Table.Of: its contract; the value of data. -/
namespace Go.Proofs.YtjbdhakogbolkaaDoor
open Go.RowKit Go.Sort Go.Joins
/-- The three cells that are read. -/
def Tri (w : World) (b0 : Nat) (a b c : Option Addr) (ca cb cc : Nat) (A B C : List Sp) : Prop := w.cell? ⟨b0, 1, none⟩ = some (.slice a A.length ca) ∧ w.cell? ⟨b0, 2, none⟩ = some (.slice b B.length cb) ∧ w.cell? ⟨b0, 3, none⟩ = some (.slice c C.length cc)
theorem Tri.below {w w' : World} {b0 : Nat} {a b c : Option Addr} {ca cb cc : Nat} {A B C : List Sp} (h : Tri w b0 a b c ca cb cc A B C) (hb : Below w.heap.size w w') : Tri w' b0 a b c ca cb cc A B C :=
  ⟨(hb.cell (World.block_lt_of_cell? w _ h.1)).trans h.1, (hb.cell (World.block_lt_of_cell? w _ h.2.1)).trans h.2.1, (hb.cell (World.block_lt_of_cell? w _ h.2.2)).trans h.2.2⟩
theorem Four.tri {w : World} {b0 : Nat} {a b c : Option Addr} {ca cb cc : Nat} {A B C : List Sp} (h : Four w b0 a b c ca cb cc A B C) : Tri w b0 a b c ca cb cc A B C := ⟨h 1 (by omega), h 2 (by omega), h 3 (by omega)⟩
/-- A Table lies at block b0. -/
def TabAt (w : World) (b0 : Nat) (A B C : List Sp) : Prop := ∃ a b c ca cb cc, Tri w b0 a b c ca cb cc A B C ∧ Lst w a ca A ∧ Lst w b cb B ∧ Lst w c cc C
theorem TabAt.below {w w' : World} {b0 : Nat} {A B C : List Sp} (h : TabAt w b0 A B C) (hb : Below w.heap.size w w') : TabAt w' b0 A B C := by
  obtain ⟨a, b, c, ca, cb, cc, h1, h2, h3, h4⟩ := h
  exact ⟨a, b, c, ca, cb, cc, h1.below hb, h2.below hb, h3.below hb, h4.below hb⟩
theorem Four.one {w : World} {b0 : Nat} {a b c : Option Addr} {ca cb cc : Nat} {A B C : List Sp} (h : Four w b0 a b c ca cb cc A B C) : w.cell? ⟨b0, 1, none⟩ = some (.slice a A.length ca) ∧ w.cell? ⟨b0, 2, none⟩ = some (.slice b B.length cb) ∧ w.cell? ⟨b0, 3, none⟩ = some (.slice c C.length cc) ∧ w.cell? ⟨b0, 0, none⟩ = some (.slice none 0 0) :=
  ⟨h 1 (by omega), h 2 (by omega), h 3 (by omega), h 0 (by omega)⟩
set_option maxRecDepth 100000 in
set_option maxHeartbeats 1000000 in
theorem of_any (b0 : Nat) (A B C : List Sp) (r : Int) (w : World) (hT : TabAt w b0 A B C) (hRA : Rgt A) (hRB : Rgt B) (hRC : Rgt C) (hG : GL w) :
    Calls Tryd.prog 82 #[.pointer (some ⟨b0, 0, none⟩), .int .i32 r] w fun e w' => e = .returned (.int .i64 (kindOf A B C r : Nat)) ∧ Below w.heap.size w w' := by
  obtain ⟨a, b, c, ca, cb, cc, hF, hA, hB, hC⟩ := hT
  have HA := fun wx (h : Lst wx a ca A) (hg : GL wx) => in_any a ca A r wx h.le h.cap h.at' hRA hg
  have HB := fun wx (h : Lst wx b cb B) (hg : GL wx) => in_any b cb B r wx h.le h.cap h.at' hRB hg
  have HC := fun wx (h : Lst wx c cc C) (hg : GL wx) => in_any c cc C r wx h.le h.cap h.at' hRC hg
  unfold kindOf
  obtain ⟨u, hu⟩ : ∃ u, u = inB A r := ⟨_, rfl⟩
  obtain ⟨v, hv⟩ : ∃ v, v = inB B r := ⟨_, rfl⟩
  obtain ⟨x, hx⟩ : ∃ x, x = inB C r := ⟨_, rfl⟩
  rw [← hu] at HA ⊢
  rw [← hv] at HB ⊢
  rw [← hx] at HC ⊢
  clear hu hv hx
  have hF0 := hF
  obtain ⟨c1, c2, c3⟩ := hF
  go_enter Tryd.func82, Tryd.ntmps82
  go_wp2_with fail
  refine (HA _ hA hG).mono ?_
  rintro e w1 ⟨rfl, hb1⟩
  have hF1 := Tri.below hF0 hb1
  have hB1 := hB.below hb1
  have hC1 := hC.below hb1
  have hG1 := hG.below hb1
  have hF1' := hF1
  obtain ⟨-, d2, d3⟩ := hF1'
  clear HA hF0 hA hB hC hG c1 c2 c3
  cases u with
  | true =>
    go_wp2_with fail
    go_ret
    exact ⟨rfl, hb1⟩
  | false =>
    go_wp2_with fail
    refine (HB _ hB1 hG1).mono ?_
    rintro e w2 ⟨rfl, hb2⟩
    have hC2 := hC1.below hb2
    have hG2 := hG1.below hb2
    obtain ⟨-, -, e3⟩ := hF1.below hb2
    have B2 := hb1.trans (hb2.mono hb1.size)
    clear HB hF1 hB1 hC1 hG1 d2 d3 hb1 hb2
    cases v with
    | true =>
      go_wp2_with fail
      go_ret
      exact ⟨rfl, B2⟩
    | false =>
      go_wp2_with fail
      refine (HC _ hC2 hG2).mono ?_
      rintro e w3 ⟨rfl, hb3⟩
      have B3 := B2.trans (hb3.mono B2.size)
      clear HC hC2 hG2 e3 hb3 B2
      cases x with
      | true =>
        go_wp2_with fail
        go_ret
        exact ⟨rfl, B3⟩
      | false =>
        go_wp2_with fail
        go_ret
        exact ⟨rfl, B3⟩
/-- The value of data, its three lists known. -/
def dtV (v0 v1 : Value) (a b c : Option Addr) (na ca nb cb nc cc : Nat) : Value := .agg #[v0, v1, .slice a na ca, .slice b nb cb, .slice c nc cc]
end Go.Proofs.YtjbdhakogbolkaaDoor
end
section
/- Words and merges in memory; what a Model's block holds. -/
namespace Go.Proofs.YtjbdhakogbolkaaDoor
open Go.RowKit Go.Sort Go.Joins
/-- The slice that begins at a holds the words l. -/
def WSP (w : World) (a : Option Addr) (l : List ByteArray) : Prop :=
  l = [] ∨ ∃ b off, a = some ⟨b, off, none⟩ ∧ ∀ i x, l[i]? = some x → w.cell? ⟨b, off + i, none⟩ = some (.string x)
theorem WSP.below {w w' : World} {a : Option Addr} {l : List ByteArray} (h : WSP w a l) (hb : Below w.heap.size w w') : WSP w' a l := by
  rcases h with h | ⟨b, off, rfl, hc⟩
  · exact .inl h
  · exact .inr ⟨b, off, rfl, fun i x hx => (hb.cell (World.block_lt_of_cell? w _ (hc i x hx))).trans (hc i x hx)⟩
theorem WSP.at_ {w : World} {a : Option Addr} {l : List ByteArray} (h : WSP w a l) {i : Nat} {x : ByteArray} (hx : l[i]? = some x) : ∃ b off, a = some ⟨b, off, none⟩ ∧ w.cell? ⟨b, off + i, none⟩ = some (.string x) := by
  rcases h with rfl | ⟨b, off, rfl, hc⟩
  · simp at hx
  · exact ⟨b, off, rfl, hc i x hx⟩
/-- A merge's three cells. -/
def MgAt (w : World) (b off : Nat) (x : Mg) : Prop := w.cell? ⟨b, off, none⟩ = some (.int .i64 x.l) ∧ w.cell? ⟨b, off + 1, none⟩ = some (.int .i64 x.r) ∧ w.cell? ⟨b, off + 2, none⟩ = some (.int .i64 x.i)
theorem MgAt.below {w w' : World} {b off : Nat} {x : Mg} (h : MgAt w b off x) (hb : Below w.heap.size w w') : MgAt w' b off x :=
  ⟨(hb.cell (World.block_lt_of_cell? w _ h.1)).trans h.1, (hb.cell (World.block_lt_of_cell? w _ h.2.1)).trans h.2.1, (hb.cell (World.block_lt_of_cell? w _ h.2.2)).trans h.2.2⟩
/-- The slice that begins at a holds the merges l. -/
def MSP (w : World) (a : Option Addr) (l : List Mg) : Prop :=
  l = [] ∨ ∃ b off, a = some ⟨b, off, none⟩ ∧ ∀ i x, l[i]? = some x → MgAt w b (off + i * 3) x
theorem MSP.below {w w' : World} {a : Option Addr} {l : List Mg} (h : MSP w a l) (hb : Below w.heap.size w w') : MSP w' a l := by
  rcases h with h | ⟨b, off, rfl, hc⟩
  · exact .inl h
  · exact .inr ⟨b, off, rfl, fun i x hx => (hc i x hx).below hb⟩
theorem MSP.at_ {w : World} {a : Option Addr} {l : List Mg} (h : MSP w a l) {i : Nat} {x : Mg} (hx : l[i]? = some x) : ∃ b off, a = some ⟨b, off, none⟩ ∧ MgAt w b (off + i * 3) x := by
  rcases h with rfl | ⟨b, off, rfl, hc⟩
  · simp at hx
  · exact ⟨b, off, rfl, hc i x hx⟩
structure Lsw (w : World) (a : Option Addr) (c : Nat) (l : List ByteArray) : Prop where
  le : l.length ≤ c
  cap : c ≤ 9223372036854775807
  at' : WSP w a l
structure Lsm (w : World) (a : Option Addr) (c : Nat) (l : List Mg) : Prop where
  le : l.length ≤ c
  cap : c ≤ 9223372036854775807
  at' : MSP w a l
theorem Lsw.below {w w' : World} {a : Option Addr} {c : Nat} {l : List ByteArray} (h : Lsw w a c l) (hb : Below w.heap.size w w') : Lsw w' a c l := ⟨h.le, h.cap, h.at'.below hb⟩
theorem Lsm.below {w w' : World} {a : Option Addr} {c : Nat} {l : List Mg} (h : Lsm w a c l) (hb : Below w.heap.size w w') : Lsm w' a c l := ⟨h.le, h.cap, h.at'.below hb⟩
/-- Its value. -/
def mgV (x : Mg) : Value := .agg #[.int .i64 x.l, .int .i64 x.r, .int .i64 x.i]
set_option maxHeartbeats 400000 in
theorem size_any (g n cw : Nat) (aw : Option Addr) (w : World) (hn : n ≤ 4611686018427387904) (h : w.cell? ⟨g, 0, none⟩ = some (.slice aw n cw)) :
    Calls Tryd.prog 40 #[.pointer (some ⟨g, 0, none⟩)] w fun e w' => e = .returned (.int .i64 (256 + (n : Int))) ∧ w' = w := by
  go_enter Tryd.func40, Tryd.ntmps40
  go_wp2_with fail
  go_ret
  exact ⟨rfl, rfl⟩
end Go.Proofs.YtjbdhakogbolkaaDoor
end
section
/- model.Model.Word, tesseraref5.Word: their contracts. -/
namespace Go.Proofs.YtjbdhakogbolkaaDoor
open Go.RowKit Go.Sort Go.Joins
/-- What Word answers. -/
def wdV (o : Option ByteArray) : Value := .tuple #[.string (o.getD ⟨#[]⟩), .bool o.isSome]
theorem byte_text (u : World) (id : Int) : (convert 39 9 (.slice (some ⟨u.heap.size, 0, none⟩) 1 1)).run Tryd.prog (u.alloc (.cells #[.int .u8 id] 5)) = .ok (.string (byteS id)) (u.alloc (.cells #[.int .u8 id] 5)) := by
  have h := run_convert_bytes_arg (P := Tryd.prog) (u.alloc (.cells #[.int .u8 id] 5)) 39 5 Tryd.underlying39 Tryd.underlying5 u.heap.size 0 1 1 [id] rfl (fun j hj => by
    obtain rfl : j = 0 := by simpa using hj
    rw [cell_of_block (heap_alloc_new _ _)]; rfl) 9 Tryd.underlying9
  rw [h]
  rfl
set_option maxRecDepth 100000 in
set_option maxHeartbeats 1000000 in
theorem word_any (g cw : Nat) (aw : Option Addr) (ws : List ByteArray) (id : Int) (w : World) (hn : ws.length ≤ 4611686018427387904) (h : w.cell? ⟨g, 0, none⟩ = some (.slice aw ws.length cw)) (hW : WSP w aw ws) :
    Calls Tryd.prog 23 #[.pointer (some ⟨g, 0, none⟩), .int .i64 id] w fun e w' => e = .returned (wdV (wordM ws id)) ∧ Below w.heap.size w w' := by
  have hcv := fun u => byte_text u id
  have HS := fun wx hx => size_any g ws.length cw aw wx hn hx
  by_cases h0 : id < 0
  · have e : wordM ws id = none := by unfold wordM; rw [if_neg (by omega), if_neg (by omega)]
    rw [e]
    have hd : decide (id < 0) = true := decide_eq_true h0
    go_enter Tryd.func23, Tryd.ntmps23
    go_wp2_with fail
    exact bodyPost_ret (v := .tuple #[.string ⟨#[]⟩, .bool false]) (by simp [results, Tryd.results23, go_sem]) rfl ⟨rfl, Below.refl _ _⟩
  · have hd : decide (id < 0) = false := decide_eq_false h0
    by_cases h1 : id < 256
    · have e : wordM ws id = some (byteS id) := by unfold wordM; rw [if_pos (by omega)]
      rw [e]
      have hd1 : decide (256 + (ws.length : Int) ≤ id) = false := decide_eq_false (by omega)
      have hd2 : decide (id < 256) = true := decide_eq_true h1
      go_enter Tryd.func23, Tryd.ntmps23
      go_wp2_with fail
      refine (HS _ h).mono ?_
      rintro e w' ⟨rfl, rfl⟩
      go_wp2_with fail
      exact bodyPost_ret (v := .tuple #[.string (byteS id), .bool true]) (by simp [results, Tryd.results23, go_sem]) rfl ⟨rfl, (Below.refl _ _).alloc (Nat.le_refl _) _⟩
    · by_cases h2 : id - 256 < ws.length
      · obtain ⟨k, hk⟩ : ∃ k : Nat, id = 256 + k := ⟨(id - 256).toNat, by omega⟩
        subst hk
        have hkl : k < ws.length := by omega
        obtain ⟨x, hx⟩ : ∃ x, ws[k]? = some x := ⟨_, List.getElem?_eq_getElem hkl⟩
        have e : wordM ws (256 + k) = some x := by rw [wordM_in (by omega), show (256 + (k : Int) - 256).toNat = k by omega, hx]
        rw [e]
        have hd1 : decide (256 + (ws.length : Int) ≤ 256 + (k : Int)) = false := decide_eq_false (by omega)
        have hd2 : decide (256 + (k : Int) < 256) = false := decide_eq_false (by omega)
        obtain ⟨b, off, rfl, hc⟩ := hW.at_ hx
        go_enter Tryd.func23, Tryd.ntmps23
        go_wp2_with fail
        refine (HS _ h).mono ?_
        rintro e w' ⟨rfl, rfl⟩
        go_wp2_with fail
        exact bodyPost_ret (v := .tuple #[.string x, .bool true]) (by simp [results, Tryd.results23, go_sem]) rfl ⟨rfl, Below.refl _ _⟩
      · have e : wordM ws id = none := by rw [wordM_in (by omega), List.getElem?_eq_none (by omega)]
        rw [e]
        have hd1 : decide (256 + (ws.length : Int) ≤ id) = true := decide_eq_true (by omega)
        go_enter Tryd.func23, Tryd.ntmps23
        go_wp2_with fail
        refine (HS _ h).mono ?_
        rintro e w' ⟨rfl, rfl⟩
        go_wp2_with fail
        exact bodyPost_ret (v := .tuple #[.string ⟨#[]⟩, .bool false]) (by simp [results, Tryd.results23, go_sem]) rfl ⟨rfl, Below.refl _ _⟩
end Go.Proofs.YtjbdhakogbolkaaDoor
end
section
/- tesseraref5.Word, made, Longest; tesserakeep.Large; model.longest, isMade: their contracts. -/
namespace Go.Proofs.YtjbdhakogbolkaaDoor
open Go.RowKit Go.Sort Go.Joins
/-- A block that holds data. -/
def DBox (w : World) (z : Nat) (v0 v1 v2 v3 v4 : Value) : Prop := w.heap[z]? = some (.cells #[v0, v1, v2, v3, v4] 30 (0, 0))
theorem DBox.new (w : World) (v0 v1 v2 v3 v4 : Value) : DBox (w.alloc (.cells #[v0, v1, v2, v3, v4] 30)) w.heap.size v0 v1 v2 v3 v4 := heap_alloc_new _ _
theorem DBox.lt {w : World} {z : Nat} {v0 v1 v2 v3 v4 : Value} (h : DBox w z v0 v1 v2 v3 v4) : z < w.heap.size := (Array.getElem?_eq_some_iff.1 h).1
theorem DBox.below {w w' : World} {z B : Nat} {v0 v1 v2 v3 v4 : Value} (h : DBox w z v0 v1 v2 v3 v4) (hb : Below B w w') (hz : z < B) : DBox w' z v0 v1 v2 v3 v4 := (hb.block z hz).trans h
theorem DBox.c0 {w : World} {z : Nat} {v0 v1 v2 v3 v4 : Value} (h : DBox w z v0 v1 v2 v3 v4) : w.cell? ⟨z, 0, none⟩ = some v0 := cell_of_block h 0
theorem DBox.c1 {w : World} {z : Nat} {v0 v1 v2 v3 v4 : Value} (h : DBox w z v0 v1 v2 v3 v4) : w.cell? ⟨z, 1, none⟩ = some v1 := cell_of_block h 1
theorem DBox.c2 {w : World} {z : Nat} {v0 v1 v2 v3 v4 : Value} (h : DBox w z v0 v1 v2 v3 v4) : w.cell? ⟨z, 2, none⟩ = some v2 := cell_of_block h 2
theorem DBox.c3 {w : World} {z : Nat} {v0 v1 v2 v3 v4 : Value} (h : DBox w z v0 v1 v2 v3 v4) : w.cell? ⟨z, 3, none⟩ = some v3 := cell_of_block h 3
theorem DBox.c4 {w : World} {z : Nat} {v0 v1 v2 v3 v4 : Value} (h : DBox w z v0 v1 v2 v3 v4) : w.cell? ⟨z, 4, none⟩ = some v4 := cell_of_block h 4
theorem box_below (w : World) (o : Obj) : Below w.heap.size w (w.alloc o) := (Below.refl _ _).alloc (Nat.le_refl _) _
set_option maxRecDepth 100000 in
set_option maxHeartbeats 1000000 in
theorem refWord_any (aw am a b c : Option Addr) (cw nm cm na ca nb cb nc cc : Nat) (ws : List ByteArray) (id : Int) (hid : -9223372036854775808 ≤ id ∧ id ≤ 9223372036854775807) (w : World) (hn : ws.length ≤ 4611686018427387904) (hW : WSP w aw ws) :
    Calls Tryd.prog 22 #[.agg #[.slice aw ws.length cw, .slice am nm cm, .slice a na ca, .slice b nb cb, .slice c nc cc], .int .i64 id] w fun e w' => e = .returned (wdV (wordM ws id)) ∧ Below w.heap.size w w' := by
  have hD := DBox.new w (.slice aw ws.length cw) (.slice am nm cm) (.slice a na ca) (.slice b nb cb) (.slice c nc cc)
  have hb := box_below w (.cells #[.slice aw ws.length cw, .slice am nm cm, .slice a na ca, .slice b nb cb, .slice c nc cc] 30)
  have x0 := hD.c0
  by_cases h0 : 0 ≤ id ∧ id < 256
  · have e : wordM ws id = some (byteS id) := by unfold wordM; rw [if_pos (by omega)]
    rw [e]
    have hcv := byte_text (w.alloc (.cells #[.slice aw ws.length cw, .slice am nm cm, .slice a na ca, .slice b nb cb, .slice c nc cc] 30)) id
    rw [show (w.alloc (.cells #[.slice aw ws.length cw, .slice am nm cm, .slice a na ca, .slice b nb cb, .slice c nc cc] 30)).heap.size = w.heap.size + 1 by simp] at hcv
    have hd1 : decide (0 ≤ id) = true := decide_eq_true h0.1
    have hd2 : decide (id < 256) = true := decide_eq_true h0.2
    clear hD x0
    go_enter Tryd.func22, Tryd.ntmps22
    go_wp2_with fail
    exact bodyPost_ret (v := .tuple #[.string (byteS id), .bool true]) (by simp [results, Tryd.results22, go_sem]) rfl ⟨rfl, hb.alloc hb.size _⟩
  · have hd : (decide (0 ≤ id) && decide (id < 256)) = false := by simp; omega
    by_cases h1 : 256 ≤ id ∧ id - 256 < ws.length
    · obtain ⟨k, hk⟩ : ∃ k : Nat, id = 256 + k := ⟨(id - 256).toNat, by omega⟩
      subst hk
      have hkl : k < ws.length := by omega
      obtain ⟨x, hx⟩ : ∃ x, ws[k]? = some x := ⟨_, List.getElem?_eq_getElem hkl⟩
      have e : wordM ws (256 + k) = some x := by rw [wordM_in (by omega), show (256 + (k : Int) - 256).toNat = k by omega, hx]
      rw [e]
      have g1 : decide (0 ≤ 256 + (k : Int)) = true := decide_eq_true (by omega)
      have g2 : decide (256 + (k : Int) < 256) = false := decide_eq_false (by omega)
      have g3 : decide (256 ≤ 256 + (k : Int)) = true := decide_eq_true (by omega)
      have g4 : decide ((k : Int) < (ws.length : Int)) = true := decide_eq_true (by omega)
      obtain ⟨bw, off, rfl, hc⟩ := (hW.below hb).at_ hx
      clear hd h0 hD
      go_enter Tryd.func22, Tryd.ntmps22
      go_wp2_with fail
      exact bodyPost_ret (v := .tuple #[.string x, .bool true]) (by simp [results, Tryd.results22, go_sem]) rfl ⟨rfl, hb⟩
    · have e : wordM ws id = none := by
        unfold wordM
        rw [if_neg h0]
        split
        · rw [List.getElem?_eq_none (by omega)]
        · rfl
      rw [e]
      by_cases h2 : id < 0
      · have g1 : decide (0 ≤ id) = false := decide_eq_false (by omega)
        have g3 : decide (256 ≤ id) = false := decide_eq_false (by omega)
        clear hd h0 hD h1
        go_enter Tryd.func22, Tryd.ntmps22
        go_wp2_with fail
        exact bodyPost_ret (v := .tuple #[.string ⟨#[]⟩, .bool false]) (by simp [results, Tryd.results22, go_sem]) rfl ⟨rfl, hb⟩
      · have g1 : decide (0 ≤ id) = true := decide_eq_true (by omega)
        have g2 : decide (id < 256) = false := decide_eq_false (by omega)
        have g3 : decide (256 ≤ id) = true := decide_eq_true (by omega)
        have g4 : decide (id - 256 < (ws.length : Int)) = false := decide_eq_false (by omega)
        clear hd h0 hD h1
        go_enter Tryd.func22, Tryd.ntmps22
        go_wp2_with fail
        exact bodyPost_ret (v := .tuple #[.string ⟨#[]⟩, .bool false]) (by simp [results, Tryd.results22, go_sem]) rfl ⟨rfl, hb⟩
set_option maxRecDepth 100000 in
set_option maxHeartbeats 1000000 in
theorem refMade_any (aw am a b c : Option Addr) (nw cw cm na ca nb cb nc cc : Nat) (ms : List Mg) (n : Nat) (id : Int) (w : World) (hn : n ≤ ms.length) (hl : ms.length ≤ 9223372036854775807) (hM : MSP w am ms) :
    Calls Tryd.prog 69 #[.agg #[.slice aw nw cw, .slice am ms.length cm, .slice a na ca, .slice b nb cb, .slice c nc cc], .int .i64 n, .int .i64 id] w fun e w' => e = .returned (.bool (madeM ms n id)) ∧ Below w.heap.size w w' := by
  have hD := DBox.new w (.slice aw nw cw) (.slice am ms.length cm) (.slice a na ca) (.slice b nb cb) (.slice c nc cc)
  have hb := box_below w (.cells #[.slice aw nw cw, .slice am ms.length cm, .slice a na ca, .slice b nb cb, .slice c nc cc] 30)
  have x1 := hD.c1
  have hM' := hM.below hb
  clear hD hM
  by_cases h0 : 0 ≤ id ∧ id < 256
  · have hd1 : decide (0 ≤ id) = true := decide_eq_true h0.1
    have hd2 : decide (id < 256) = true := decide_eq_true h0.2
    have e : madeM ms n id = true := by unfold madeM; rw [hd1, hd2]; rfl
    rw [e]
    clear e
    go_enter Tryd.func69, Tryd.ntmps69
    go_wp2_with fail
    go_ret
    exact ⟨rfl, hb⟩
  · have hm : madeM ms n id = (decide (256 ≤ id) && (ms.take n).any fun x => x.i == id) := by
      unfold madeM
      rw [show (decide (0 ≤ id) && decide (id < 256)) = false by simp; omega, Bool.false_or]
    obtain ⟨Y, hY⟩ : ∃ Y, Y = w.alloc (.cells #[.slice aw nw cw, .slice am ms.length cm, .slice a na ca, .slice b nb cb, .slice c nc cc] 30) := ⟨_, rfl⟩
    have HM : Hid (madeM ms n id = (decide (256 ≤ id) && (ms.take n).any fun x => x.i == id)) := hm
    obtain ⟨R, hR⟩ : ∃ R, R = madeM ms n id := ⟨_, rfl⟩
    rw [← hR] at HM ⊢
    have hp : (∃ g1 : decide (0 ≤ id) = true, decide (id < 256) = false) ∨ decide (0 ≤ id) = false := by
      by_cases h2 : id < 0
      · exact .inr (decide_eq_false (by omega))
      · exact .inl ⟨decide_eq_true (by omega), decide_eq_false (by omega)⟩
    clear hm hR h0
    go_enter Tryd.func69, Tryd.ntmps69
    rcases hp with ⟨g1, g2⟩ | g1
    all_goals
      go_wp2_with fail
      rw [← hY] at hb x1 hM' ⊢
      clear hY
      try clear g2
      clear g1
      obtain ⟨z, hz⟩ : ∃ z, z = w.heap.size := ⟨_, rfl⟩
      have HZ : Hid (z = w.heap.size) := hz
      rw [← hz] at x1 ⊢
      clear hz
      go_loopw [7] (fun i wr => ∃ k : Nat, k ≤ n ∧ i = .int .i64 k ∧ ((ms.take k).any fun x => x.i == id) = false ∧ wr = Y) (fun i _ => n - (intOf i).toNat)
      case atStart => exact ⟨0, Nat.zero_le _, rfl, by simp, rfl⟩
      case round =>
        obtain ⟨k, hk, rfl, hno, he⟩ := hrel
        obtain rfl := he.symm
        have HNO : Hid (((ms.take k).any fun x => x.i == id) = false) := hno
        clear hno
        by_cases hlt : k < n
        · obtain ⟨x, hx⟩ : ∃ x, ms[k]? = some x := ⟨_, List.getElem?_eq_getElem (by omega)⟩
          have g0 : decide ((k : Int) < (n : Int)) = true := decide_eq_true (by omega)
          have HX : Hid (ms[k]? = some x) := hx
          obtain ⟨bw, off, rfl, -, -, hc⟩ := hM'.at_ hx
          clear hx hM'
          by_cases hxi : x.i = id
          · have g1 : (x.i == id) = true := by simpa using hxi
            go_wp2_with fail
            go_ret
            refine ⟨?_, hb⟩
            have e1 : ((ms.take n).any fun x => x.i == id) = true := by
              rw [List.any_eq_true]
              refine ⟨x, ?_, by simpa using hxi⟩
              rw [List.mem_iff_getElem?]
              exact ⟨k, by rw [List.getElem?_take_of_lt hlt]; exact HX.out⟩
            have e : R = decide (256 ≤ id) := by rw [HM.out, e1, Bool.and_true]
            rw [e]
            rfl
          · have g1 : (x.i == id) = false := by simpa using hxi
            go_wp2_with fail
            refine ⟨⟨k + 1, by omega, by go_num, ?_, trivial⟩, by simp only [intOf]; omega⟩
            rw [List.take_add_one, HX.out, List.any_append, HNO.out]
            simpa using hxi
        · have hkn : k = n := by omega
          subst hkn
          clear hM'
          go_wp2_with fail
          go_ret
          refine ⟨?_, hb⟩
          have e : R = false := by rw [HM.out, HNO.out, Bool.and_false]
          rw [e]
          rfl
end Go.Proofs.YtjbdhakogbolkaaDoor
end
