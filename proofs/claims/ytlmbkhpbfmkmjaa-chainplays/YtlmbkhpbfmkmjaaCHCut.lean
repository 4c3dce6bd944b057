/- chain's Cut: its contract. -/
import Derived.Test.YtlmbkhpbfmkmjaaCHCell
import Derived.Test.YtlmbkhpbfmkmjaaURegion
namespace Go.Proofs.Ytlmbkhpbfmkmjaa.CH
open Go.RowKit Go.Joins Go.Sort
set_option linter.unusedVariables false
set_option linter.unusedSimpArgs false
set_option maxRecDepth 100000
theorem arr_set {arr : Array Value} {i j : Nat} {v u : Value} (h : arr[j]? = some u) : (arr.setIfInBounds i v)[j]? = some (if j = i then v else u) := by
  have hj : j < arr.size := (Array.getElem?_eq_some_iff.1 h).1
  rw [Array.getElem?_setIfInBounds]
  by_cases e : i = j
  · subst e
    simp [hj]
  · rw [if_neg e, if_neg (fun e2 => e e2.symm)]
    exact h
theorem LkAt.setQ {w : World} {b n : Nat} {p q : Nat → Int} (h : LkAt w b n p q) (i : Nat) (v : Int) : LkAt (w.setCell ⟨b, i * 2 + 1, none⟩ (.int .i64 v)) b n p (fun j => if j = i then v else q j) := by
  obtain ⟨arr, h1, h2⟩ := h
  refine ⟨_, block_setCell h1 _, fun j hj => ?_⟩
  obtain ⟨h3, h4⟩ := h2 j hj
  refine ⟨?_, ?_⟩
  · rw [arr_set h3, if_neg (by omega)]
  · rw [arr_set h4]
    dsimp only
    by_cases e : j = i
    · rw [if_pos (by omega), if_pos e]
    · rw [if_neg (by omega), if_neg e]
theorem LkAt.setP {w : World} {b n : Nat} {p q : Nat → Int} (h : LkAt w b n p q) (i : Nat) (v : Int) : LkAt (w.setCell ⟨b, i * 2, none⟩ (.int .i64 v)) b n (fun j => if j = i then v else p j) q := by
  obtain ⟨arr, h1, h2⟩ := h
  refine ⟨_, block_setCell h1 _, fun j hj => ?_⟩
  obtain ⟨h3, h4⟩ := h2 j hj
  refine ⟨?_, ?_⟩
  · rw [arr_set h3]
    dsimp only
    by_cases e : j = i
    · rw [if_pos (by omega), if_pos e]
    · rw [if_neg (by omega), if_neg e]
  · rw [arr_set h4, if_neg (by omega)]
theorem LkAt.other {w : World} {b n : Nat} {p q : Nat → Int} (h : LkAt w b n p q) {g o : Nat} (v : Value) (hne : b ≠ g) : LkAt (w.setCell ⟨g, o, none⟩ v) b n p q := by
  obtain ⟨arr, h1, h2⟩ := h
  exact ⟨arr, (Below.heap_setCell w ⟨g, o, none⟩ v b hne).trans h1, h2⟩
theorem ChAt.other {w : World} {g b n : Nat} {cnt : Int} (h : ChAt w g b n cnt) {c o : Nat} (v : Value) (hne : g ≠ c) : ChAt (w.setCell ⟨c, o, none⟩ v) g b n cnt :=
  (Below.heap_setCell w ⟨c, o, none⟩ v g hne).trans h
/-- No block but two turns. -/
structure Tn (g b : Nat) (w w' : World) : Prop where
  os : w'.os = w.os
  tape : w'.tape = w.tape
  output : w'.output = w.output
  size : w.heap.size ≤ w'.heap.size
  block : ∀ k, k < w.heap.size → k ≠ g → k ≠ b → w'.heap[k]? = w.heap[k]?
theorem Tn.refl (g b : Nat) (w : World) : Tn g b w w := ⟨rfl, rfl, rfl, Nat.le_refl _, fun _ _ _ _ => rfl⟩
theorem Tn.trans {g b : Nat} {x y z : World} (h : Tn g b x y) (k : Tn g b y z) : Tn g b x z :=
  ⟨k.os.trans h.os, k.tape.trans h.tape, k.output.trans h.output, Nat.le_trans h.size k.size, fun i hi h1 h2 => (k.block i (Nat.lt_of_lt_of_le hi h.size) h1 h2).trans (h.block i hi h1 h2)⟩
theorem Tn.of_below {g b : Nat} {x y : World} (h : Below x.heap.size x y) : Tn g b x y := ⟨h.os, h.tape, h.output, h.size, fun i hi _ _ => h.block i hi⟩
theorem Tn.set {g b : Nat} {x y : World} (h : Tn g b x y) {c o : Nat} (v : Value) (hc : c = g ∨ c = b) : Tn g b x (y.setCell ⟨c, o, none⟩ v) :=
  ⟨h.os, h.tape, h.output, by simpa using h.size, fun i hi h1 h2 => (Below.heap_setCell y ⟨c, o, none⟩ v i (by rintro rfl; rcases hc with h | h; exact h1 h; exact h2 h)).trans (h.block i hi h1 h2)⟩
theorem Tn.below {g b base : Nat} {x y : World} (h : Tn g b x y) (hg : base ≤ g) (hb : base ≤ b) (hs : base ≤ x.heap.size) : Below base x y :=
  ⟨h.os, h.tape, h.output, h.size, fun k hk => h.block k (by omega) (by omega) (by omega)⟩
/-- The chain when k was cut out. -/
theorem lk_cut {inn : Nat → Bool} {n k : Nat} {p q : Nat → Int} (hk : k < n) (hin : inn k = true) (h : Lk inn n p q) :
    Lk (cutP inn k) n (fun j => if j = k then -1 else if j = nxF inn n k then ((dnG inn n k : Nat) : Int) else p j) (fun j => if j = dnG inn n k then ((nxF inn n k : Nat) : Int) else q j) := by
  have hc : ∀ i, (i = n ∨ cutP inn k i = true) → i ≠ k ∧ (i = n ∨ inn i = true) := by
    intro i hi
    by_cases e : i = k
    · subst e
      rcases hi with hi | hi
      · omega
      · simp [cutP] at hi
    · refine ⟨e, ?_⟩
      rcases hi with hi | hi
      · exact .inl hi
      · refine .inr ?_
        unfold cutP at hi
        rwa [if_neg e] at hi
  refine ⟨fun i hi hii => ?_, fun i hi hii => ?_, fun i hi hii => ?_⟩
  · obtain ⟨e, h2⟩ := hc i hii
    show (if i = dnG inn n k then _ else _) = _
    rw [nx_cut hk hin hi h2 e]
    split
    · rfl
    · exact h.nx i hi h2
  · obtain ⟨e, h2⟩ := hc i hii
    show (if i = k then _ else _) = _
    rw [dn_cut hk hin hi h2 e, if_neg e]
    split
    · rfl
    · exact h.pv i hi h2
  · show (if i = k then _ else _) = _
    by_cases e : i = k
    · rw [if_pos e]
    · rw [if_neg e]
      unfold cutP at hii
      rw [if_neg e] at hii
      have : i ≠ nxF inn n k := by
        intro e2
        have := nx_in (inn := inn) (n := n) (i := k) (by omega) (by omega)
        rw [← e2, hii] at this
        cases this
      rw [if_neg this]
      exact h.out i hi hii
set_option maxHeartbeats 4000000 in
theorem cut_yes (g b n : Nat) (inn : Nat → Bool) (cnt : Int) (k : Nat) (W : World) (h : Ch W g b n inn cnt) (hk : k < n) (hin : inn k = true) (hcnt : 0 ≤ cnt ∧ cnt ≤ 1048576) :
    Calls Try.prog 7 #[.pointer (some ⟨g, 0, none⟩), .int .i64 (k : Nat)] W fun e w' => e = .returned (.bool true) ∧ Ch w' g b n (cutP inn k) (cnt - 1) ∧ Tn g b W w' := by
  have HH := has_any g b n inn cnt (k : Nat) W h
  rw [show hasB inn n (k : Nat) = true by simp [hasB, hk, hin]] at HH
  have hgb := h.ne
  have hle := h.le
  obtain ⟨p, q, hL, hK⟩ := h.links
  have ho := h.own
  have hp : p k = ((dnG inn n k : Nat) : Int) := hK.pv k (by omega) (.inr hin)
  have hq : q k = ((nxF inn n k : Nat) : Int) := hK.nx k (by omega) (.inr hin)
  have ha := dn_le (inn := inn) (n := n) (i := k) (by omega)
  have hc := nx_le (inn := inn) (n := n) (i := k) (by omega)
  have hak : dnG inn n k ≠ k := by
    rcases dn_spec inn n k with ⟨h1, _⟩ | ⟨h1, _⟩ <;> omega
  have hck : nxF inn n k ≠ k := by
    have := (up_spec inn (n - (k + 1)) (k + 1)).1
    unfold nxF
    rw [if_neg (by omega)]
    omega
  have HK : Hid (Lk (cutP inn k) n (fun j => if j = k then -1 else if j = nxF inn n k then ((dnG inn n k : Nat) : Int) else p j) (fun j => if j = dnG inn n k then ((nxF inn n k : Nat) : Int) else q j)) := lk_cut hk hin hK
  obtain ⟨a, hA⟩ : ∃ a, a = dnG inn n k := ⟨_, rfl⟩
  obtain ⟨c, hC⟩ : ∃ c, c = nxF inn n k := ⟨_, rfl⟩
  rw [← hA] at hp ha hak HK
  rw [← hC] at hq hc hck HK
  have HL : Hid (LkAt W b n p q) := hL
  have HO : Hid (ChAt W g b n cnt) := ho
  have HP : Hid (p k = (a : Int)) := hp
  have HQ : Hid (q k = (c : Int)) := hq
  have c0 := (hL.at' (i := k) (by omega)).1
  have c1 := (hL.at' (i := k) (by omega)).2
  rw [hp] at c0
  rw [hq] at c1
  have hoo := ho
  unfold ChAt at hoo
  have c2 := cell_of_block hoo (i := 0)
  have ik : 0 ≤ (k : Int) ∧ (k : Int) < (n : Int) + 1 := by omega
  have ia : 0 ≤ (a : Int) ∧ (a : Int) < (n : Int) + 1 := by omega
  have ic : 0 ≤ (c : Int) ∧ (c : Int) < (n : Int) + 1 := by omega
  clear hA hC hp hq hL ho hK h hoo hin
  go_enter Try.func7, Try.ntmps7
  go_wp2_with fail
  refine HH.mono ?_
  rintro e w1 ⟨rfl, he⟩
  obtain rfl := he.symm
  clear HH
  go_wp2_with fail
  have k0 := cell_regrown c0
  have k1 := cell_regrown c1
  have k2 := cell_regrown c2
  clear c0 c1 c2
  refine wp_region_quiet_tail (C := fun w' => ∃ p : Regrown, w' = grow (redrawn W p.d) p.os) 12 (by kernel_rfl) (by kernel_rfl) ⟨⟨_, #[]⟩, by rw [grow_empty]; rfl⟩ ?_
  simp only [List.take_succ_cons, List.take_zero, List.drop_succ_cons, List.drop_zero]
  repeat (go_big_quiet_step (fail))
  refine wpQuiet_nil ?_
  intro W1 hw'
  have hb1 : Below W.heap.size W W1 := by
    obtain ⟨⟨dq, osq⟩, rfl⟩ := hw'
    exact below_regrown _ _ _
  clear hw' k0 k1 k2
  have L1 := HL.out.below hb1
  have O1 := HO.out.below hb1
  have T1 : Tn g b W W1 := Tn.of_below hb1
  have f1 := L1.free
  have i0 := (L1.at' (i := a) (by omega)).2
  clear hb1
  go_wp2_with fail
  have L2 := L1.setQ a (c : Nat)
  have O2 := O1.other (c := b) (o := a * 2 + 1) (.int .i64 (c : Nat)) hgb
  have T2 := T1.set (c := b) (o := a * 2 + 1) (.int .i64 (c : Nat)) (.inr rfl)
  obtain ⟨W2, hW2⟩ : ∃ W2, W2 = W1.setCell ⟨b, a * 2 + 1, none⟩ (.int .i64 (c : Nat)) := ⟨_, rfl⟩
  rw [← hW2] at L2 O2 T2 ⊢
  clear hW2 f1 L1 O1 T1 i0
  have k0 := cell_regrown (L2.at' (i := k) (by omega)).1
  have k1 := cell_regrown (L2.at' (i := k) (by omega)).2
  rw [HP.out] at k0
  rw [if_neg (fun e => hak e.symm), HQ.out] at k1
  have O2' := O2
  unfold ChAt at O2'
  have k2 := cell_regrown ((cell_of_block O2' (i := 0)).trans rfl)
  clear O2'
  refine wp_region_quiet_tail (C := fun w' => ∃ p : Regrown, w' = grow (redrawn W2 p.d) p.os) 12 (by kernel_rfl) (by kernel_rfl) ⟨⟨_, #[]⟩, by rw [grow_empty]; rfl⟩ ?_
  simp only [List.take_succ_cons, List.take_zero, List.drop_succ_cons, List.drop_zero]
  repeat (go_big_quiet_step (fail))
  refine wpQuiet_nil ?_
  intro W3 hw'
  have hb1 : Below W2.heap.size W2 W3 := by
    obtain ⟨⟨dq, osq⟩, rfl⟩ := hw'
    exact below_regrown _ _ _
  clear hw' k0 k1 k2
  have L3 := L2.below hb1
  have O3 := O2.below hb1
  have T3 := T2.trans (Tn.of_below hb1)
  have f3 := L3.free
  have i0 := (L3.at' (i := c) (by omega)).1
  clear hb1 L2 O2 T2
  go_upto_region 6 with fail
  have L4 := L3.setP c (a : Nat)
  have O4 := O3.other (c := b) (o := c * 2) (.int .i64 (a : Nat)) hgb
  have T4 := T3.set (c := b) (o := c * 2) (.int .i64 (a : Nat)) (.inr rfl)
  obtain ⟨W4, hW4⟩ : ∃ W4, W4 = W3.setCell ⟨b, c * 2, none⟩ (.int .i64 (a : Nat)) := ⟨_, rfl⟩
  rw [← hW4] at L4 O4 T4 ⊢
  clear hW4 f3 L3 O3 T3 i0
  have f4 := L4.free
  have i0 := (L4.at' (i := k) (by omega)).1
  go_upto_region 7 with fail
  have L5 := L4.setP k (-1)
  have O5 := O4.other (c := b) (o := k * 2) (.int .i64 (-1)) hgb
  have T5 := T4.set (c := b) (o := k * 2) (.int .i64 (-1)) (.inr rfl)
  obtain ⟨W5, hW5⟩ : ∃ W5, W5 = W4.setCell ⟨b, k * 2, none⟩ (.int .i64 (-1)) := ⟨_, rfl⟩
  rw [← hW5] at L5 O5 T5 ⊢
  clear hW5 f4 L4 O4 T4 i0
  have O5' := O5
  unfold ChAt at O5'
  have c2 := cell_of_block O5' (i := 1)
  have f2 := unfrozen_of_block O5' 1
  go_wp2_with fail
  go_ret
  refine ⟨rfl, ⟨?_, hle, _, _, L5.other (g := g) (o := 1) _ (fun e => hgb e.symm), ?_⟩, T5.set (c := g) (o := 1) _ (.inl rfl)⟩
  · unfold ChAt
    rw [block_setCell O5']
    rfl
  · exact HK.out
set_option maxHeartbeats 1000000 in
theorem cut_no (g b n : Nat) (inn : Nat → Bool) (cnt i : Int) (W : World) (h : Ch W g b n inn cnt) (hi : hasB inn n i = false) :
    Calls Try.prog 7 #[.pointer (some ⟨g, 0, none⟩), .int .i64 i] W fun e w' => e = .returned (.bool false) ∧ w' = W := by
  have HH := has_any g b n inn cnt i W h
  rw [hi] at HH
  clear h hi
  go_enter Try.func7, Try.ntmps7
  go_wp2_with fail
  refine HH.mono ?_
  rintro e w1 ⟨rfl, he⟩
  obtain rfl := he.symm
  go_wp2_with fail
  go_ret
  exact ⟨rfl, rfl⟩
end Go.Proofs.Ytlmbkhpbfmkmjaa.CH
