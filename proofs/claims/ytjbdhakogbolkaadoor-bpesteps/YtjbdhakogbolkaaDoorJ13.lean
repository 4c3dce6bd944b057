import Derived.Test.YtjbdhakogbolkaaDoorJ12
import Derived.Test.YtjbdhakogbolkaaDoorJ5
import Derived.Laws.MakeOwn
import Derived.Test.YtjbdhakogbolkaaDoorJ9
section
/- chain's Cut: its contract. -/
namespace Go.Proofs.YtjbdhakogbolkaaDoor.CH
open Go.RowKit Go.Joins Go.Sort
set_option linter.unusedVariables false
set_option linter.unusedSimpArgs false
set_option maxRecDepth 100000
theorem arr_set {arr : Array Value} {i j : Nat} {v u : Value} (h : arr[j]? = some u) : (arr.setIfInBounds i v)[j]? = some (if j = i then v else u) := by
  have hj : j < arr.size := (Array.getElem?_eq_some_iff.1 h).1
  rw [Array.getElem?_setIfInBounds]
  by_cases e : i = j
  · subst e
    simp [hj]
  · rw [if_neg e, if_neg (fun e2 => e e2.symm)]
    exact h
theorem LkAt.setQ {w : World} {b n : Nat} {p q : Nat → Int} (h : LkAt w b n p q) (i : Nat) (v : Int) : LkAt (w.setCell ⟨b, i * 2 + 1, none⟩ (.int .i64 v)) b n p (fun j => if j = i then v else q j) := by
  obtain ⟨arr, h1, h2⟩ := h
  refine ⟨_, block_setCell h1 _, fun j hj => ?_⟩
  obtain ⟨h3, h4⟩ := h2 j hj
  refine ⟨?_, ?_⟩
  · rw [arr_set h3, if_neg (by omega)]
  · rw [arr_set h4]
    dsimp only
    by_cases e : j = i
    · rw [if_pos (by omega), if_pos e]
    · rw [if_neg (by omega), if_neg e]
theorem LkAt.setP {w : World} {b n : Nat} {p q : Nat → Int} (h : LkAt w b n p q) (i : Nat) (v : Int) : LkAt (w.setCell ⟨b, i * 2, none⟩ (.int .i64 v)) b n (fun j => if j = i then v else p j) q := by
  obtain ⟨arr, h1, h2⟩ := h
  refine ⟨_, block_setCell h1 _, fun j hj => ?_⟩
  obtain ⟨h3, h4⟩ := h2 j hj
  refine ⟨?_, ?_⟩
  · rw [arr_set h3]
    dsimp only
    by_cases e : j = i
    · rw [if_pos (by omega), if_pos e]
    · rw [if_neg (by omega), if_neg e]
  · rw [arr_set h4, if_neg (by omega)]
theorem LkAt.other {w : World} {b n : Nat} {p q : Nat → Int} (h : LkAt w b n p q) {g o : Nat} (v : Value) (hne : b ≠ g) : LkAt (w.setCell ⟨g, o, none⟩ v) b n p q := by
  obtain ⟨arr, h1, h2⟩ := h
  exact ⟨arr, (Below.heap_setCell w ⟨g, o, none⟩ v b hne).trans h1, h2⟩
theorem ChAt.other {w : World} {g b n : Nat} {cnt : Int} (h : ChAt w g b n cnt) {c o : Nat} (v : Value) (hne : g ≠ c) : ChAt (w.setCell ⟨c, o, none⟩ v) g b n cnt :=
  (Below.heap_setCell w ⟨c, o, none⟩ v g hne).trans h
/-- No block but two turns. -/
structure Tn (g b : Nat) (w w' : World) : Prop where
  os : w'.os = w.os
  tape : w'.tape = w.tape
  output : w'.output = w.output
  size : w.heap.size ≤ w'.heap.size
  block : ∀ k, k < w.heap.size → k ≠ g → k ≠ b → w'.heap[k]? = w.heap[k]?
theorem Tn.refl (g b : Nat) (w : World) : Tn g b w w := ⟨rfl, rfl, rfl, Nat.le_refl _, fun _ _ _ _ => rfl⟩
theorem Tn.trans {g b : Nat} {x y z : World} (h : Tn g b x y) (k : Tn g b y z) : Tn g b x z :=
  ⟨k.os.trans h.os, k.tape.trans h.tape, k.output.trans h.output, Nat.le_trans h.size k.size, fun i hi h1 h2 => (k.block i (Nat.lt_of_lt_of_le hi h.size) h1 h2).trans (h.block i hi h1 h2)⟩
theorem Tn.of_below {g b : Nat} {x y : World} (h : Below x.heap.size x y) : Tn g b x y := ⟨h.os, h.tape, h.output, h.size, fun i hi _ _ => h.block i hi⟩
theorem Tn.set {g b : Nat} {x y : World} (h : Tn g b x y) {c o : Nat} (v : Value) (hc : c = g ∨ c = b) : Tn g b x (y.setCell ⟨c, o, none⟩ v) :=
  ⟨h.os, h.tape, h.output, by simpa using h.size, fun i hi h1 h2 => (Below.heap_setCell y ⟨c, o, none⟩ v i (by rintro rfl; rcases hc with h | h; exact h1 h; exact h2 h)).trans (h.block i hi h1 h2)⟩
theorem Tn.below {g b base : Nat} {x y : World} (h : Tn g b x y) (hg : base ≤ g) (hb : base ≤ b) (hs : base ≤ x.heap.size) : Below base x y :=
  ⟨h.os, h.tape, h.output, h.size, fun k hk => h.block k (by omega) (by omega) (by omega)⟩
/-- The chain when k was cut out. -/
theorem lk_cut {inn : Nat → Bool} {n k : Nat} {p q : Nat → Int} (hk : k < n) (hin : inn k = true) (h : Lk inn n p q) :
    Lk (cutP inn k) n (fun j => if j = k then -1 else if j = nxF inn n k then ((dnG inn n k : Nat) : Int) else p j) (fun j => if j = dnG inn n k then ((nxF inn n k : Nat) : Int) else q j) := by
  have hc : ∀ i, (i = n ∨ cutP inn k i = true) → i ≠ k ∧ (i = n ∨ inn i = true) := by
    intro i hi
    by_cases e : i = k
    · subst e
      rcases hi with hi | hi
      · omega
      · simp [cutP] at hi
    · refine ⟨e, ?_⟩
      rcases hi with hi | hi
      · exact .inl hi
      · refine .inr ?_
        unfold cutP at hi
        rwa [if_neg e] at hi
  refine ⟨fun i hi hii => ?_, fun i hi hii => ?_, fun i hi hii => ?_⟩
  · obtain ⟨e, h2⟩ := hc i hii
    show (if i = dnG inn n k then _ else _) = _
    rw [nx_cut hk hin hi h2 e]
    split
    · rfl
    · exact h.nx i hi h2
  · obtain ⟨e, h2⟩ := hc i hii
    show (if i = k then _ else _) = _
    rw [dn_cut hk hin hi h2 e, if_neg e]
    split
    · rfl
    · exact h.pv i hi h2
  · show (if i = k then _ else _) = _
    by_cases e : i = k
    · rw [if_pos e]
    · rw [if_neg e]
      unfold cutP at hii
      rw [if_neg e] at hii
      have : i ≠ nxF inn n k := by
        intro e2
        have := nx_in (inn := inn) (n := n) (i := k) (by omega) (by omega)
        rw [← e2, hii] at this
        cases this
      rw [if_neg this]
      exact h.out i hi hii
set_option maxHeartbeats 4000000 in
theorem cut_yes (g b n : Nat) (inn : Nat → Bool) (cnt : Int) (k : Nat) (W : World) (h : Ch W g b n inn cnt) (hk : k < n) (hin : inn k = true) (hcnt : 0 ≤ cnt ∧ cnt ≤ 1048576) :
    Calls Tryd.prog 76 #[.pointer (some ⟨g, 0, none⟩), .int .i64 (k : Nat)] W fun e w' => e = .returned (.bool true) ∧ Ch w' g b n (cutP inn k) (cnt - 1) ∧ Tn g b W w' := by
  have HH := has_any g b n inn cnt (k : Nat) W h
  rw [show hasB inn n (k : Nat) = true by simp [hasB, hk, hin]] at HH
  have hgb := h.ne
  have hle := h.le
  obtain ⟨p, q, hL, hK⟩ := h.links
  have ho := h.own
  have hp : p k = ((dnG inn n k : Nat) : Int) := hK.pv k (by omega) (.inr hin)
  have hq : q k = ((nxF inn n k : Nat) : Int) := hK.nx k (by omega) (.inr hin)
  have ha := dn_le (inn := inn) (n := n) (i := k) (by omega)
  have hc := nx_le (inn := inn) (n := n) (i := k) (by omega)
  have hak : dnG inn n k ≠ k := by
    rcases dn_spec inn n k with ⟨h1, _⟩ | ⟨h1, _⟩ <;> omega
  have hck : nxF inn n k ≠ k := by
    have := (up_spec inn (n - (k + 1)) (k + 1)).1
    unfold nxF
    rw [if_neg (by omega)]
    omega
  have HK : Hid (Lk (cutP inn k) n (fun j => if j = k then -1 else if j = nxF inn n k then ((dnG inn n k : Nat) : Int) else p j) (fun j => if j = dnG inn n k then ((nxF inn n k : Nat) : Int) else q j)) := lk_cut hk hin hK
  obtain ⟨a, hA⟩ : ∃ a, a = dnG inn n k := ⟨_, rfl⟩
  obtain ⟨c, hC⟩ : ∃ c, c = nxF inn n k := ⟨_, rfl⟩
  rw [← hA] at hp ha hak HK
  rw [← hC] at hq hc hck HK
  have HL : Hid (LkAt W b n p q) := hL
  have HO : Hid (ChAt W g b n cnt) := ho
  have HP : Hid (p k = (a : Int)) := hp
  have HQ : Hid (q k = (c : Int)) := hq
  have c0 := (hL.at' (i := k) (by omega)).1
  have c1 := (hL.at' (i := k) (by omega)).2
  rw [hp] at c0
  rw [hq] at c1
  have hoo := ho
  unfold ChAt at hoo
  have c2 := cell_of_block hoo (i := 0)
  have ik : 0 ≤ (k : Int) ∧ (k : Int) < (n : Int) + 1 := by omega
  have ia : 0 ≤ (a : Int) ∧ (a : Int) < (n : Int) + 1 := by omega
  have ic : 0 ≤ (c : Int) ∧ (c : Int) < (n : Int) + 1 := by omega
  clear hA hC hp hq hL ho hK h hoo hin
  go_enter Tryd.func76, Tryd.ntmps76
  go_wp2_with fail
  refine HH.mono ?_
  rintro e w1 ⟨rfl, he⟩
  obtain rfl := he.symm
  clear HH
  go_wp2_with fail
  have k0 := cell_regrown c0
  have k1 := cell_regrown c1
  have k2 := cell_regrown c2
  clear c0 c1 c2
  refine wp_region_quiet_tail (C := fun w' => ∃ p : Regrown, w' = grow (redrawn W p.d) p.os) 12 (by kernel_rfl) (by kernel_rfl) ⟨⟨_, #[]⟩, by rw [grow_empty]; rfl⟩ ?_
  simp only [List.take_succ_cons, List.take_zero, List.drop_succ_cons, List.drop_zero]
  repeat (go_big_quiet_step (fail))
  refine wpQuiet_nil ?_
  intro W1 hw'
  have hb1 : Below W.heap.size W W1 := by
    obtain ⟨⟨dq, osq⟩, rfl⟩ := hw'
    exact below_regrown _ _ _
  clear hw' k0 k1 k2
  have L1 := HL.out.below hb1
  have O1 := HO.out.below hb1
  have T1 : Tn g b W W1 := Tn.of_below hb1
  have f1 := L1.free
  have i0 := (L1.at' (i := a) (by omega)).2
  clear hb1
  go_wp2_with fail
  have L2 := L1.setQ a (c : Nat)
  have O2 := O1.other (c := b) (o := a * 2 + 1) (.int .i64 (c : Nat)) hgb
  have T2 := T1.set (c := b) (o := a * 2 + 1) (.int .i64 (c : Nat)) (.inr rfl)
  obtain ⟨W2, hW2⟩ : ∃ W2, W2 = W1.setCell ⟨b, a * 2 + 1, none⟩ (.int .i64 (c : Nat)) := ⟨_, rfl⟩
  rw [← hW2] at L2 O2 T2 ⊢
  clear hW2 f1 L1 O1 T1 i0
  have k0 := cell_regrown (L2.at' (i := k) (by omega)).1
  have k1 := cell_regrown (L2.at' (i := k) (by omega)).2
  rw [HP.out] at k0
  rw [if_neg (fun e => hak e.symm), HQ.out] at k1
  have O2' := O2
  unfold ChAt at O2'
  have k2 := cell_regrown ((cell_of_block O2' (i := 0)).trans rfl)
  clear O2'
  refine wp_region_quiet_tail (C := fun w' => ∃ p : Regrown, w' = grow (redrawn W2 p.d) p.os) 12 (by kernel_rfl) (by kernel_rfl) ⟨⟨_, #[]⟩, by rw [grow_empty]; rfl⟩ ?_
  simp only [List.take_succ_cons, List.take_zero, List.drop_succ_cons, List.drop_zero]
  repeat (go_big_quiet_step (fail))
  refine wpQuiet_nil ?_
  intro W3 hw'
  have hb1 : Below W2.heap.size W2 W3 := by
    obtain ⟨⟨dq, osq⟩, rfl⟩ := hw'
    exact below_regrown _ _ _
  clear hw' k0 k1 k2
  have L3 := L2.below hb1
  have O3 := O2.below hb1
  have T3 := T2.trans (Tn.of_below hb1)
  have f3 := L3.free
  have i0 := (L3.at' (i := c) (by omega)).1
  clear hb1 L2 O2 T2
  go_upto_region 6 with fail
  have L4 := L3.setP c (a : Nat)
  have O4 := O3.other (c := b) (o := c * 2) (.int .i64 (a : Nat)) hgb
  have T4 := T3.set (c := b) (o := c * 2) (.int .i64 (a : Nat)) (.inr rfl)
  obtain ⟨W4, hW4⟩ : ∃ W4, W4 = W3.setCell ⟨b, c * 2, none⟩ (.int .i64 (a : Nat)) := ⟨_, rfl⟩
  rw [← hW4] at L4 O4 T4 ⊢
  clear hW4 f3 L3 O3 T3 i0
  have f4 := L4.free
  have i0 := (L4.at' (i := k) (by omega)).1
  go_upto_region 7 with fail
  have L5 := L4.setP k (-1)
  have O5 := O4.other (c := b) (o := k * 2) (.int .i64 (-1)) hgb
  have T5 := T4.set (c := b) (o := k * 2) (.int .i64 (-1)) (.inr rfl)
  obtain ⟨W5, hW5⟩ : ∃ W5, W5 = W4.setCell ⟨b, k * 2, none⟩ (.int .i64 (-1)) := ⟨_, rfl⟩
  rw [← hW5] at L5 O5 T5 ⊢
  clear hW5 f4 L4 O4 T4 i0
  have O5' := O5
  unfold ChAt at O5'
  have c2 := cell_of_block O5' (i := 1)
  have f2 := unfrozen_of_block O5' 1
  go_wp2_with fail
  go_ret
  refine ⟨rfl, ⟨?_, hle, _, _, L5.other (g := g) (o := 1) _ (fun e => hgb e.symm), ?_⟩, T5.set (c := g) (o := 1) _ (.inl rfl)⟩
  · unfold ChAt
    rw [block_setCell O5']
    rfl
  · exact HK.out
set_option maxHeartbeats 1000000 in
theorem cut_no (g b n : Nat) (inn : Nat → Bool) (cnt i : Int) (W : World) (h : Ch W g b n inn cnt) (hi : hasB inn n i = false) :
    Calls Tryd.prog 76 #[.pointer (some ⟨g, 0, none⟩), .int .i64 i] W fun e w' => e = .returned (.bool false) ∧ w' = W := by
  have HH := has_any g b n inn cnt i W h
  rw [hi] at HH
  clear h hi
  go_enter Tryd.func76, Tryd.ntmps76
  go_wp2_with fail
  refine HH.mono ?_
  rintro e w1 ⟨rfl, he⟩
  obtain rfl := he.symm
  go_wp2_with fail
  go_ret
  exact ⟨rfl, rfl⟩
end Go.Proofs.YtjbdhakogbolkaaDoor.CH
end
section
/- chain.New: its contract. -/
namespace Go.Proofs.YtjbdhakogbolkaaDoor.CH
open Go.RowKit Go.Joins Go.Sort
set_option linter.unusedVariables false
set_option linter.unusedSimpArgs false
set_option maxRecDepth 100000
theorem info_parts {t : TypeId} {z : Value} {s b : Nat} (h : (Tryd.prog.info? t).map (fun i => (i.zero, i.size, i.bytes)) = some (some z, s, b)) : ∃ i, Tryd.prog.info? t = some i ∧ i.zero = some z ∧ i.size = s ∧ i.bytes = b := by
  cases hi : Tryd.prog.info? t with
  | none => rw [hi] at h; simp at h
  | some i =>
    rw [hi] at h
    simp at h
    exact ⟨i, rfl, h.1, h.2.1, h.2.2⟩
theorem infoL : (Tryd.prog.info? 151).map (fun i => (i.zero, i.size, i.bytes)) = some (some (.agg #[.int .i64 0, .int .i64 0]), 2, 16) := by kernel_rfl
theorem run_makeL (n : Nat) (hn : n ≤ 1048577) : ∃ arr : Array Value, (∀ i, i < n → arr[i * 2]? = some (.int .i64 0) ∧ arr[i * 2 + 1]? = some (.int .i64 0)) ∧ ∀ u : World, (Instr.makeSlice 147 (.int .i64 (n : Nat)) (.int .i64 (n : Nat))).run Tryd.prog u = .ok (.slice (some ⟨u.heap.size, 0, none⟩) n n) (u.alloc (.cells arr 151)) := by
  obtain ⟨i0, hi, hz0, hz1, hz2⟩ := info_parts infoL
  refine ⟨madeCells (Value.agg #[.int .i64 0, .int .i64 0]).cells (n * 2), fun i h => ?_, fun u => ?_⟩
  · have hx : ∀ j, j < n * 2 → (madeCells (Value.agg #[.int .i64 0, .int .i64 0]).cells (n * 2))[j]? = some (.int .i64 0) := by
      intro j hj
      have hs : j < (madeCells (Value.agg #[.int .i64 0, .int .i64 0]).cells (n * 2)).size := by rw [size_madeCells]; exact hj
      rw [Array.getElem?_eq_getElem hs]
      simp only [madeCells]
      rcases Nat.mod_two_eq_zero_or_one j with e | e <;> simp [Value.cells, e]
    exact ⟨hx _ (by omega), hx _ (by omega)⟩
  · have h := run_make (P := Tryd.prog) u 147 151 i0 _ Tryd.underlying147 hi hz0 .i64 .i64 (n : Int) (n : Int) (by omega) (Int.le_refl _) (by rw [hz2]; omega) (by omega)
    rw [hz1] at h
    have e : ((n : Int)).toNat = n := by omega
    rw [e] at h
    exact h
/-- All numbers below n. -/
def inn0 (n : Nat) : Nat → Bool := fun m => decide (m < n)
theorem lk_new (n : Nat) : Lk (inn0 n) n (fun i => if i = 0 then ((n : Nat) : Int) else (i : Int) - 1) (fun i => if i = n then 0 else (i : Int) + 1) := by
  have hin : ∀ m, m < n → inn0 n m = true := fun m h => decide_eq_true h
  refine ⟨fun i hi _ => ?_, fun i hi _ => ?_, fun i hi h => ?_⟩
  · unfold nxF
    by_cases e : i = n
    · rw [if_pos e, if_pos e]
      cases n with
      | zero => rfl
      | succ n => rw [up_all (hin 0 (by omega))]; rfl
    · rw [if_neg e, if_neg e]
      by_cases e2 : i + 1 = n
      · rw [show n - (i + 1) = 0 by omega]
        show _ = ((i + 1 : Nat) : Int)
        omega
      · rw [up_all (hin (i + 1) (by omega))]
        omega
  · cases i with
    | zero => rw [if_pos rfl]; rfl
    | succ i =>
      rw [if_neg (by omega), dnG, if_pos (hin i (by omega))]
      omega
  · simp [inn0] at h
    omega
set_option maxHeartbeats 4000000 in
theorem new_any (i m : Int) (n : Nat) (W : World) (h1 : (if i < 0 then 0 else i) = m) (h2 : (if 1048576 < m then 1048576 else m) = n) (hn : n ≤ 1048576) :
    Calls Tryd.prog 51 #[.int .i64 i] W fun e w' => ∃ g b, e = .returned (.pointer (some ⟨g, 0, none⟩)) ∧ W.heap.size ≤ g ∧ W.heap.size ≤ b ∧ Ch w' g b n (inn0 n) n ∧ Below W.heap.size W w' := by
  obtain ⟨arr, ha, hmk⟩ := run_makeL (n + 1) (by omega)
  have hL0 : LkAt (W.alloc (.cells arr 151)) W.heap.size n (fun _ => 0) (fun _ => 0) :=
    ⟨arr, heap_alloc_new W _, fun i hi => ha i (by omega)⟩
  clear ha
  have ec : ((n + 1 : Nat) : Int) = (n : Int) + 1 := by omega
  rw [ec] at hmk
  have b0 : Below W.heap.size W (W.alloc (.cells arr 151)) := (Below.refl _ _).alloc (Nat.le_refl _) _
  have b1 := b0.alloc b0.size (.cells #[.slice (some ⟨W.heap.size, 0, none⟩) (n + 1) (n + 1), .int .i64 (n : Nat)] 149)
  have hL1 := hL0.below ((Below.refl _ _).alloc (Nat.le_refl _) (.cells #[.slice (some ⟨W.heap.size, 0, none⟩) (n + 1) (n + 1), .int .i64 (n : Nat)] 149))
  have hO1 : ChAt ((W.alloc (.cells arr 151)).alloc (.cells #[.slice (some ⟨W.heap.size, 0, none⟩) (n + 1) (n + 1), .int .i64 (n : Nat)] 149)) (W.heap.size + 1) W.heap.size n (n : Nat) := by
    have := heap_alloc_new (W.alloc (.cells arr 151)) (.cells #[.slice (some ⟨W.heap.size, 0, none⟩) (n + 1) (n + 1), .int .i64 (n : Nat)] 149)
    rw [World.size_alloc] at this
    exact this
  clear b0 hL0
  go_enter Tryd.func51, Tryd.ntmps51
  go_upto_region 3 with fail
  obtain ⟨W1, hW1⟩ : ∃ W1, W1 = (W.alloc (.cells arr 151)).alloc (.cells #[.slice (some ⟨W.heap.size, 0, none⟩) (n + 1) (n + 1), .int .i64 (n : Nat)] 149) := ⟨_, rfl⟩
  rw [← hW1] at hL1 hO1 b1 ⊢
  clear hW1 hmk h1 h2
  obtain ⟨b, hb⟩ : ∃ b, b = W.heap.size := ⟨_, rfl⟩
  have HB : Hid (b = W.heap.size) := hb
  rw [← hb] at hL1 hO1 b1 ⊢
  clear hb
  have c0 := cell_of_block (show W1.heap[b + 1]? = _ from hO1) (i := 0)
  have HL1 : Hid (LkAt W1 b n (fun _ => 0) (fun _ => 0)) := hL1
  have HO1 : Hid (ChAt W1 (b + 1) b n (n : Nat)) := hO1
  clear hL1 hO1
  go_wp2_with fail
  clear c0
  go_loopw [19] (fun v wr => ∃ (k : Nat) (p q : Nat → Int), k ≤ n + 1 ∧ v = .int .i64 (k : Nat) ∧ LkAt wr b n p q ∧ (∀ j, j < k → p j = (j : Int) - 1 ∧ q j = (j : Int) + 1) ∧ ChAt wr (b + 1) b n (n : Nat) ∧ Below b W wr) (fun v _ => n + 1 - (intOf v).toNat)
  case atStart => exact ⟨0, _, _, Nat.zero_le _, rfl, HL1.out, fun j hj => absurd hj (by omega), HO1.out, b1⟩
  case round =>
    obtain ⟨k, p, q, hk, rfl, hL, hpq, hO, hB⟩ := hrel
    have HO : Hid (ChAt wr (b + 1) b n (n : Nat)) := hO
    have c0 := (cell_of_block (show wr.heap[b + 1]? = _ from hO) (i := 0)).trans rfl
    have HL : Hid (LkAt wr b n p q) := hL
    by_cases hkn : k = n + 1
    · have d0 : decide ((k : Int) < (n : Int) + 1) = false := decide_eq_false (by omega)
      have d1 : decide (k < n + 1) = false := decide_eq_false (by omega)
      have hf := hL.free
      have r0 := (hL.at' (i := 0) (by omega)).1
      have r1 := (hL.at' (i := n) (by omega)).2
      have in0 : 0 ≤ (n : Int) ∧ (n : Int) < (n : Int) + 1 := by omega
      have HK : Hid (k = n + 1) := hkn
      clear hkn hO hL
      go_upto_region 8 with fail
      clear d0 d1
      rw [Nat.zero_mul] at r0
      go_upto_region 9 with fail
      have L2 := HL.out.setP 0 (n : Nat)
      rw [Nat.zero_mul] at L2
      have O2 := ChAt.other HO.out (c := b) (o := 0) (.int .i64 (n : Nat)) (by omega)
      have B2 := hB.setCell (p := ⟨b, 0, none⟩) (Nat.le_refl _) (.int .i64 (n : Nat))
      obtain ⟨W2, hW2⟩ : ∃ W2, W2 = wr.setCell ⟨b, 0, none⟩ (.int .i64 (n : Nat)) := ⟨_, rfl⟩
      rw [← hW2] at L2 O2 B2 ⊢
      clear hW2 hf r0 r1 c0 HO HL hB
      have c0 := (cell_of_block (show W2.heap[b + 1]? = _ from O2) (i := 0)).trans rfl
      have r1 := (L2.at' (i := n) (by omega)).2
      have hf := L2.free
      go_wp2_with fail
      go_ret
      refine ⟨b + 1, b, rfl, by rw [← HB.out]; omega, by rw [← HB.out]; exact Nat.le_refl _, ⟨ChAt.other O2 _ (by omega), hn, _, _, L2.setQ n 0, ?_⟩, by rw [← HB.out]; exact B2.setCell (p := ⟨b, _, none⟩) (Nat.le_refl _) _⟩
      have h0 := lk_new n
      refine ⟨fun i hi h => ?_, fun i hi h => ?_, fun i hi h => ?_⟩
      · rw [← h0.nx i hi h]
        split
        · rfl
        · exact (hpq i (by have := HK.out; omega)).2
      · rw [← h0.pv i hi h]
        split
        · rfl
        · exact (hpq i (by have := HK.out; omega)).1
      · simp [inn0] at h
        omega
    · have d0 : decide ((k : Int) < (n : Int) + 1) = true := decide_eq_true (by omega)
      have d1 : decide (k < n + 1) = true := decide_eq_true (by omega)
      have hf := hL.free
      have r0 := (hL.at' (i := k) (by omega)).1
      have r1 := (hL.at' (i := k) (by omega)).2
      have in0 : 0 ≤ (k : Int) ∧ (k : Int) < (n : Int) + 1 := by omega
      have L2 := (hL.setP k ((k : Int) - 1)).setQ k ((k : Int) + 1)
      have O2 := ChAt.other (ChAt.other hO (c := b) (o := k * 2) (.int .i64 ((k : Int) - 1)) (by omega)) (c := b) (o := k * 2 + 1) (.int .i64 ((k : Int) + 1)) (by omega)
      have B2 := (hB.setCell (p := ⟨b, k * 2, none⟩) (Nat.le_refl _) (.int .i64 ((k : Int) - 1))).setCell (p := ⟨b, k * 2 + 1, none⟩) (Nat.le_refl _) (.int .i64 ((k : Int) + 1))
      have HL2 : Hid (LkAt ((wr.setCell ⟨b, k * 2, none⟩ (.int .i64 ((k : Int) - 1))).setCell ⟨b, k * 2 + 1, none⟩ (.int .i64 ((k : Int) + 1))) b n (fun j => if j = k then (k : Int) - 1 else p j) (fun j => if j = k then (k : Int) + 1 else q j)) := L2
      clear hO hL L2
      go_wp2_with fail
      go_roundw
      case rel => exact ⟨k + 1, _, _, by omega, by go_num, HL2.out, fun j hj => by
        by_cases e : j = k
        · rw [if_pos e, if_pos e, e]
          exact ⟨rfl, rfl⟩
        · rw [if_neg e, if_neg e]
          exact hpq j (by omega), O2, B2⟩
      case measure => simp [intOf]; omega
end Go.Proofs.YtjbdhakogbolkaaDoor.CH
end
section
/- bpe's row: its memory; pairAt: its contract. -/
namespace Go.Proofs.YtjbdhakogbolkaaDoor
open Go.RowKit Go.Joins Go.Sort
set_option linter.unusedVariables false
set_option linter.unusedSimpArgs false
set_option maxRecDepth 100000
/-- The ids' block. -/
def IdAt (w : World) (b n : Nat) (ids : Nat → Int) : Prop :=
  ∃ arr : Array Value, w.heap[b]? = some (.cells arr 3 (0, 0)) ∧ ∀ i, i < n → arr[i]? = some (.int .i64 (ids i))
theorem IdAt.lt {w : World} {b n : Nat} {ids : Nat → Int} (h : IdAt w b n ids) : b < w.heap.size := by
  obtain ⟨arr, h1, _⟩ := h
  exact (Array.getElem?_eq_some_iff.1 h1).1
theorem IdAt.kept {w w' : World} {b n : Nat} {ids : Nat → Int} (h : IdAt w b n ids) (hb : w'.heap[b]? = w.heap[b]?) : IdAt w' b n ids := by
  obtain ⟨arr, h1, h2⟩ := h
  exact ⟨arr, hb.trans h1, h2⟩
theorem IdAt.below {w w' : World} {b n : Nat} {ids : Nat → Int} (h : IdAt w b n ids) (hb : Below w.heap.size w w') : IdAt w' b n ids := h.kept (hb.block b h.lt)
theorem IdAt.at' {w : World} {b n : Nat} {ids : Nat → Int} (h : IdAt w b n ids) {i : Nat} (hi : i < n) : w.cell? ⟨b, i, none⟩ = some (.int .i64 (ids i)) := by
  obtain ⟨arr, h1, h2⟩ := h
  exact (cell_of_block h1 i).trans (h2 i hi)
theorem IdAt.free {w : World} {b n : Nat} {ids : Nat → Int} (h : IdAt w b n ids) (j : Nat) : w.frozen? ⟨b, j, none⟩ = false := by
  obtain ⟨arr, h1, h2⟩ := h
  exact unfrozen_of_block h1 j
theorem IdAt.set {w : World} {b n : Nat} {ids : Nat → Int} (h : IdAt w b n ids) (k : Nat) (v : Int) : IdAt (w.setCell ⟨b, k, none⟩ (.int .i64 v)) b n (updI ids k v) := by
  obtain ⟨arr, h1, h2⟩ := h
  refine ⟨_, block_setCell h1 _, fun j hj => ?_⟩
  have h3 := h2 j hj
  rw [CH.arr_set h3]
  unfold updI
  by_cases e : j = k
  · rw [if_pos e, if_pos e]
  · rw [if_neg e, if_neg e]
/-- The row's own block. -/
def RwAt (w : World) (r mg : Nat) (ia : Option Addr) (ic n cg : Nat) (hp : Value) : Prop :=
  w.heap[r]? = some (.cells #[.pointer (some ⟨mg, 0, none⟩), .slice ia n ic, .pointer (some ⟨cg, 0, none⟩), hp] 116 (0, 0))
theorem RwAt.below {w w' : World} {r mg ic n cg : Nat} {ia : Option Addr} {hp : Value} (h : RwAt w r mg ia ic n cg hp) (hb : Below w.heap.size w w') : RwAt w' r mg ia ic n cg hp :=
  (hb.block r (Array.getElem?_eq_some_iff.1 h).1).trans h
theorem RwAt.lt {w : World} {r mg ic n cg : Nat} {ia : Option Addr} {hp : Value} (h : RwAt w r mg ia ic n cg hp) : r < w.heap.size := (Array.getElem?_eq_some_iff.1 h).1
/-- What pairAt answers. -/
def pairF (ms : List Mg) (inn : Nat → Bool) (n : Nat) (ids : Nat → Int) (at_ : Int) : Bool × Int × Int × Int × Int :=
  if CH.nextA inn n at_ < 0 then (false, 0, 0, 0, 0) else
  match mergeM ms (ids at_.toNat) (ids (CH.nextA inn n at_).toNat) with
  | some (k, i) => (true, (k : Int), i, at_, CH.nextA inn n at_)
  | none => (false, 0, 0, at_, CH.nextA inn n at_)
def prV (x : Bool × Int × Int × Int × Int) : Value := .tuple #[.agg #[.int .i64 x.2.1, .int .i64 x.2.2.1, .int .i64 x.2.2.2.1, .int .i64 x.2.2.2.2], .bool x.1]
theorem next_nonneg {inn : Nat → Bool} {n : Nat} {i : Int} (h : ¬ CH.nextA inn n i < 0) : ∃ k : Nat, i = k ∧ k < n ∧ inn k = true ∧ CH.nxF inn n k < n ∧ CH.nextA inn n i = (CH.nxF inn n k : Nat) := by
  unfold CH.nextA at h ⊢
  cases hb : CH.hasB inn n i with
  | false => rw [hb] at h; simp at h
  | true =>
    obtain ⟨k, rfl, hk, hin⟩ := CH.hasB_true hb
    rw [hb] at h
    simp only [if_true, Int.toNat_natCast] at h ⊢
    have hle := CH.nx_le (inn := inn) (n := n) (i := k) (by omega)
    unfold CH.numF at h ⊢
    by_cases e : ((CH.nxF inn n k : Nat) : Int) = (n : Nat)
    · rw [if_pos e] at h; exact absurd (by decide) h
    · rw [if_neg e]
      exact ⟨k, rfl, hk, hin, by omega, rfl⟩
/-- What it says, of the pure row. -/
theorem pairF_yes {ms : List Mg} {inn : Nat → Bool} {n : Nat} {ids : Nat → Int} {at_ : Int} (h : (pairF ms inn n ids at_).1 = true) : ∃ (k k' : Nat) (i : Int), at_ = k ∧ k < n ∧ inn k = true ∧ CH.nxF inn n k < n ∧ paJ ms inn n ids k = some (k', i) ∧ pairF ms inn n ids at_ = (true, (k' : Int), i, (k : Int), ((CH.nxF inn n k : Nat) : Int)) := by
  unfold pairF at h ⊢
  by_cases h0 : CH.nextA inn n at_ < 0
  · rw [if_pos h0] at h; cases h
  · obtain ⟨k, rfl, hk, hin, hx, he⟩ := next_nonneg h0
    rw [if_neg h0] at h ⊢
    rw [he] at h ⊢
    simp only [Int.toNat_natCast] at h ⊢
    cases hm : mergeM ms (ids k) (ids (CH.nxF inn n k)) with
    | none => rw [hm] at h; cases h
    | some x =>
      obtain ⟨k', i⟩ := x
      exact ⟨k, k', i, rfl, hk, hin, hx, by unfold paJ; rw [if_pos ⟨hk, hin, hx⟩, hm], rfl⟩
theorem pairF_no {ms : List Mg} {inn : Nat → Bool} {n : Nat} {ids : Nat → Int} {k : Nat} (h : (pairF ms inn n ids (k : Nat)).1 = false) : paJ ms inn n ids k = none := by
  unfold paJ
  by_cases hc : k < n ∧ inn k = true ∧ CH.nxF inn n k < n
  · rw [if_pos hc]
    obtain ⟨hk, hin, hx⟩ := hc
    have he : CH.nextA inn n (k : Nat) = (CH.nxF inn n k : Nat) := by
      unfold CH.nextA
      rw [show CH.hasB inn n (k : Nat) = true by simp [CH.hasB, hk, hin]]
      simp only [if_true, Int.toNat_natCast]
      unfold CH.numF
      rw [if_neg (by omega)]
    unfold pairF at h
    rw [he, if_neg (by omega)] at h
    simp only [Int.toNat_natCast] at h
    cases hm : mergeM ms (ids k) (ids (CH.nxF inn n k)) with
    | none => rfl
    | some x => rw [hm] at h; cases h
  · rw [if_neg hc]
set_option maxHeartbeats 1000000 in
theorem pairAt_any (r mg ib cg cb lo : Nat) (hp : Value) (ia : Option Addr) (ic n : Nat) (cnt : Int) (inn : Nat → Bool) (ids : Nat → Int) (at_ : Int) (ws : List ByteArray) (ms : List Mg) (A B C : List Sp) (w : World)
    (hown : RwAt w r mg ia ic n cg hp) (hids : n = 0 ∨ (ia = some ⟨ib, 0, none⟩ ∧ IdAt w ib n ids)) (hC : CH.Ch w cg cb n inn cnt) (hM : ModelAt w lo mg ws ms A B C) (hI : ∀ k, k < n → W64 (ids k)) :
    Calls Tryd.prog 52 #[.pointer (some ⟨r, 0, none⟩), .int .i64 at_] w fun e w' => e = .returned (prV (pairF ms inn n ids at_)) ∧ Below w.heap.size w w' := by
  obtain ⟨w1, hw1⟩ : ∃ w1, w1 = w.alloc (.cells #[.int .i64 0, .int .i64 0, .int .i64 0, .int .i64 0] 86) := ⟨_, rfl⟩
  have hb1 : Below w.heap.size w w1 := by rw [hw1]; exact (Below.refl _ w).alloc (Nat.le_refl _) _
  have hr1 := hown.below hb1
  have HN := CH.next_any cg cb n inn cnt at_ w1 (hC.below hb1)
  have hrb : w1.heap[w.heap.size]? = some (.cells #[.int .i64 0, .int .i64 0, .int .i64 0, .int .i64 0] 86 (0, 0)) := by rw [hw1]; exact heap_alloc_new w _
  have c0 := cell_of_block hr1 0
  have c1 := cell_of_block hr1 1
  have c2 := cell_of_block hr1 2
  have r0 := cell_of_block hrb 0
  have r1 := cell_of_block hrb 1
  have r2 := cell_of_block hrb 2
  have r3 := cell_of_block hrb 3
  have q0 := fun j => unfrozen_of_block hrb j
  have hs1 : w.heap.size < w1.heap.size := (Array.getElem?_eq_some_iff.1 hrb).1
  simp only [List.getElem?_toArray, List.getElem?_cons_zero, List.getElem?_cons_succ] at c0 c1 c2 r0 r1 r2 r3
  by_cases h0 : CH.nextA inn n at_ < 0
  · have hR : pairF ms inn n ids at_ = (false, 0, 0, 0, 0) := by unfold pairF; rw [if_pos h0]
    rw [hR]
    unfold prV
    obtain ⟨x, hx⟩ : ∃ x, x = CH.nextA inn n at_ := ⟨_, rfl⟩
    rw [← hx] at HN h0
    have d0 : decide (x < 0) = true := decide_eq_true h0
    clear hx hR h0 hids hC hM hI hown hr1
    go_enter Tryd.func52, Tryd.ntmps52
    go_upto_region 1 with fail
    rw [← hw1]
    obtain ⟨rb, hrb2⟩ : ∃ rb, rb = w.heap.size := ⟨_, rfl⟩
    have HRB : Hid (rb = w.heap.size) := hrb2
    rw [← hrb2] at hrb r0 r1 r2 r3 q0 hs1 ⊢
    clear hw1 hrb2
    go_wp2_with fail
    refine HN.mono ?_
    rintro e w2 ⟨rfl, he⟩
    obtain rfl := he.symm
    clear HN
    go_wp2_with fail
    refine bodyPost_ret (v := .tuple #[.agg #[.int .i64 0, .int .i64 0, .int .i64 0, .int .i64 0], .bool false]) (by simp [results, Tryd.results52, go_sem, r0, r1, r2, r3]) rfl ⟨rfl, ?_⟩
    rw [← HRB.out]
    rw [← HRB.out] at hb1
    exact (((hb1.setCell (p := ⟨rb, 0, none⟩) (Nat.le_refl _) _).setCell (p := ⟨rb, 1, none⟩) (Nat.le_refl _) _).setCell (p := ⟨rb, 2, none⟩) (Nat.le_refl _) _).setCell (p := ⟨rb, 3, none⟩) (Nat.le_refl _) _
  · obtain ⟨k, rfl, hk, hin, hx, he⟩ := next_nonneg h0
    have hR : pairF ms inn n ids (k : Nat) = match mergeM ms (ids k) (ids (CH.nxF inn n k)) with | some (k', i) => (true, (k' : Int), i, (k : Int), ((CH.nxF inn n k : Nat) : Int)) | none => (false, 0, 0, (k : Int), ((CH.nxF inn n k : Nat) : Int)) := by
      unfold pairF; rw [if_neg h0, he]; rfl
    rw [hR]
    rw [he] at HN
    obtain ⟨rfl, hA⟩ := hids.resolve_left (by omega)
    have hA1 := hA.below hb1
    have i0 := hA1.at' hk
    have i1 := hA1.at' hx
    have HC := fun d os => merge_any mg lo ws ms A B C (ids k) (ids (CH.nxF inn n k)) (grow (redrawn w1 d) os) (hI k hk) (hI _ hx) ((hM.below hb1).below (below_regrown w1 d os))
    obtain ⟨x, hxe⟩ : ∃ x, x = CH.nxF inn n k := ⟨_, rfl⟩
    rw [← hxe] at HN HC i1 hx ⊢
    obtain ⟨a, ha⟩ : ∃ a, a = ids k := ⟨_, rfl⟩
    obtain ⟨b, hb⟩ : ∃ b, b = ids x := ⟨_, rfl⟩
    rw [← ha, ← hb] at HC ⊢
    rw [← ha] at i0
    rw [← hb] at i1
    obtain ⟨o, ho⟩ : ∃ o, o = mergeM ms a b := ⟨_, rfl⟩
    rw [← ho] at HC ⊢
    have bk : 0 ≤ (k : Int) ∧ (k : Int) < (n : Int) := by omega
    have bx : 0 ≤ (x : Int) ∧ (x : Int) < (n : Int) := by omega
    have d0 : decide ((x : Int) < 0) = false := decide_eq_false (by omega)
    have k0 := cell_regrown c0
    have k1 := cell_regrown c1
    have k2 := cell_regrown i0
    have k3 := cell_regrown i1
    have hwl : w.heap.size ≤ w1.heap.size := hb1.size
    have HB1 : Hid (Below w.heap.size w w1) := hb1
    have HRb : Hid (w1.heap[w.heap.size]? = some (.cells #[.int .i64 0, .int .i64 0, .int .i64 0, .int .i64 0] 86 (0, 0))) := hrb
    clear hxe ha hb ho he hR h0 hC hM hI hown hr1 hA hA1 hids hb1 hrb hin
    go_enter Tryd.func52, Tryd.ntmps52
    go_upto_region 1 with fail
    rw [← hw1]
    obtain ⟨rb, hrb2⟩ : ∃ rb, rb = w.heap.size := ⟨_, rfl⟩
    have HRB : Hid (rb = w.heap.size) := hrb2
    rw [← hrb2] at r0 r1 r2 r3 q0 hs1 hwl HB1 HRb ⊢
    clear hw1 hrb2
    go_upto_region 4 with (refine HN.mono ?_; rintro e w2 ⟨rfl, he⟩; obtain rfl := he.symm; clear HN)
    clear r0 r1 r2 r3 q0 c0 c1 c2 i0 i1
    cases o with
    | none =>
      have hmr : mrV none = .tuple #[.int .i64 0, .int .i64 0, .bool false] := rfl
      rw [hmr] at HC
      refine wp_region_quiet_below (by kernel_rfl) (by kernel_rfl) ?_
      repeat (go_big_quiet_step ((go_at_call 24; exact Calls.regrown_of (HC _ _))))
      refine wpQuiet_nil ?_
      intro W5 hw'
      have hb5 : Below w1.heap.size w1 W5 := by
        obtain ⟨⟨dq, osq⟩, rfl⟩ := hw'
        exact below_regrown _ _ _
      have hrb5 := (hb5.block rb hs1).trans HRb.out
      have B5 := HB1.out.trans (hb5.mono hwl)
      clear hw' HC k0 k1 k2 k3 hb5
      have r0 := cell_of_block hrb5 0
      have r1 := cell_of_block hrb5 1
      have r2 := cell_of_block hrb5 2
      have r3 := cell_of_block hrb5 3
      have q0 := fun j => unfrozen_of_block hrb5 j
      simp only [List.getElem?_toArray, List.getElem?_cons_zero, List.getElem?_cons_succ] at r0 r1 r2 r3
      go_wp2_with fail
      refine bodyPost_ret (v := prV (false, 0, 0, (k : Int), (x : Int))) (by unfold prV; simp [results, Tryd.results52, go_sem, r0, r1, r2, r3]) rfl ⟨rfl, ?_⟩
      rw [← HRB.out]
      exact (((B5.setCell (p := ⟨rb, 0, none⟩) (Nat.le_refl _) _).setCell (p := ⟨rb, 1, none⟩) (Nat.le_refl _) _).setCell (p := ⟨rb, 2, none⟩) (Nat.le_refl _) _).setCell (p := ⟨rb, 3, none⟩) (Nat.le_refl _) _
    | some z =>
      obtain ⟨k', i'⟩ := z
      have hmr : mrV (some (k', i')) = .tuple #[.int .i64 (k' : Nat), .int .i64 i', .bool true] := rfl
      rw [hmr] at HC
      refine wp_region_quiet_below (by kernel_rfl) (by kernel_rfl) ?_
      repeat (go_big_quiet_step ((go_at_call 24; exact Calls.regrown_of (HC _ _))))
      refine wpQuiet_nil ?_
      intro W5 hw'
      have hb5 : Below w1.heap.size w1 W5 := by
        obtain ⟨⟨dq, osq⟩, rfl⟩ := hw'
        exact below_regrown _ _ _
      have hrb5 := (hb5.block rb hs1).trans HRb.out
      have B5 := HB1.out.trans (hb5.mono hwl)
      clear hw' HC k0 k1 k2 k3 hb5
      have r0 := cell_of_block hrb5 0
      have r1 := cell_of_block hrb5 1
      have r2 := cell_of_block hrb5 2
      have r3 := cell_of_block hrb5 3
      have q0 := fun j => unfrozen_of_block hrb5 j
      simp only [List.getElem?_toArray, List.getElem?_cons_zero, List.getElem?_cons_succ] at r0 r1 r2 r3
      go_wp2_with fail
      refine bodyPost_ret (v := prV (true, (k' : Int), i', (k : Int), (x : Int))) (by unfold prV; simp [results, Tryd.results52, go_sem, r0, r1, r2, r3]) rfl ⟨rfl, ?_⟩
      rw [← HRB.out]
      exact (((B5.setCell (p := ⟨rb, 0, none⟩) (Nat.le_refl _) _).setCell (p := ⟨rb, 1, none⟩) (Nat.le_refl _) _).setCell (p := ⟨rb, 2, none⟩) (Nat.le_refl _) _).setCell (p := ⟨rb, 3, none⟩) (Nat.le_refl _) _
end Go.Proofs.YtjbdhakogbolkaaDoor
end
section
/- bpe's row: pushAt, join: their contracts. -/
namespace Go.Proofs.YtjbdhakogbolkaaDoor
open Go.RowKit Go.Joins Go.Sort
set_option linter.unusedVariables false
set_option linter.unusedSimpArgs false
set_option maxRecDepth 100000
/-- A row in memory. -/
structure RowAt (w : World) (base r mg ib cg cb hg : Nat) (ia : Option Addr) (ic n : Nat) (hv : Value) (inn : Nat → Bool) (ids : Nat → Int) (cnt : Int) (H : List HQ.El) : Prop where
  own : RwAt w r mg ia ic n cg (.pointer (some ⟨hg, 0, none⟩))
  ids : n = 0 ∨ (ia = some ⟨ib, 0, none⟩ ∧ IdAt w ib n ids ∧ base ≤ ib ∧ ib ≠ r ∧ ib ≠ cg ∧ ib ≠ cb ∧ ib ≠ hg ∧ hv.ownBlock ≠ some ib)
  ch : CH.Ch w cg cb n inn cnt
  hp : HQ.HeapAt w base hg hv H
  low : base ≤ r ∧ base ≤ cg ∧ base ≤ cb
  ne : r ≠ cg ∧ r ≠ cb ∧ r ≠ hg ∧ hg ≠ cg ∧ hg ≠ cb ∧ hv.ownBlock ≠ some r ∧ hv.ownBlock ≠ some cg ∧ hv.ownBlock ≠ some cb
theorem RowAt.idA {w : World} {base r mg ib cg cb hg : Nat} {ia : Option Addr} {ic n : Nat} {hv : Value} {inn : Nat → Bool} {ids : Nat → Int} {cnt : Int} {H : List HQ.El} (h : RowAt w base r mg ib cg cb hg ia ic n hv inn ids cnt H) : n = 0 ∨ (ia = some ⟨ib, 0, none⟩ ∧ IdAt w ib n ids) := h.ids.imp_right fun h => ⟨h.1, h.2.1⟩
theorem RowAt.chl {w : World} {base r mg ib cg cb hg : Nat} {ia : Option Addr} {ic n : Nat} {hv : Value} {inn : Nat → Bool} {ids : Nat → Int} {cnt : Int} {H : List HQ.El} (h : RowAt w base r mg ib cg cb hg ia ic n hv inn ids cnt H) : cg < w.heap.size ∧ cb < w.heap.size := by
  obtain ⟨p, q, ⟨arr, h1, _⟩, _⟩ := h.ch.links
  exact ⟨(Array.getElem?_eq_some_iff.1 h.ch.own).1, (Array.getElem?_eq_some_iff.1 h1).1⟩
theorem RowAt.below {w w' : World} {base r mg ib cg cb hg : Nat} {ia : Option Addr} {ic n : Nat} {hv : Value} {inn : Nat → Bool} {ids : Nat → Int} {cnt : Int} {H : List HQ.El} (h : RowAt w base r mg ib cg cb hg ia ic n hv inn ids cnt H) (hb : Below w.heap.size w w') : RowAt w' base r mg ib cg cb hg ia ic n hv inn ids cnt H :=
  ⟨h.own.below hb, h.ids.imp_right fun g => ⟨g.1, g.2.1.below hb, g.2.2⟩, h.ch.below hb, h.hp.below hb, h.low, h.ne⟩
/-- The heap alone turned. -/
theorem RowAt.heap {w w' : World} {base r mg ib cg cb hg : Nat} {ia : Option Addr} {ic n : Nat} {hv hv' : Value} {inn : Nat → Bool} {ids : Nat → Int} {cnt : Int} {H H' : List HQ.El} (h : RowAt w base r mg ib cg cb hg ia ic n hv inn ids cnt H) (hA : HQ.HeapAt w' base hg hv' H') (ht : HQ.Tn hg hv hv' w w') : RowAt w' base r mg ib cg cb hg ia ic n hv' inn ids cnt H' := by
  have hcl := h.chl
  have hrl := h.own.lt
  have mv : ∀ k, k < w.heap.size → hv.ownBlock ≠ some k → hv'.ownBlock ≠ some k := fun k hk hne e => by
    rcases ht.moved k e with h1 | h1
    · exact hne h1
    · omega
  have bl : ∀ k, k < w.heap.size → k ≠ hg → hv.ownBlock ≠ some k → w'.heap[k]? = w.heap[k]? := fun k hk h1 h2 => ht.block k hk h1 (fun e => h2 e.symm)
  refine ⟨(bl r hrl h.ne.2.2.1 h.ne.2.2.2.2.2.1).trans h.own, ?_, h.ch.kept (bl cg hcl.1 (fun e => h.ne.2.2.2.1 e.symm) h.ne.2.2.2.2.2.2.1) (bl cb hcl.2 (fun e => h.ne.2.2.2.2.1 e.symm) h.ne.2.2.2.2.2.2.2), hA, h.low, h.ne.1, h.ne.2.1, h.ne.2.2.1, h.ne.2.2.2.1, h.ne.2.2.2.2.1, mv r hrl h.ne.2.2.2.2.2.1, mv cg hcl.1 h.ne.2.2.2.2.2.2.1, mv cb hcl.2 h.ne.2.2.2.2.2.2.2⟩
  rcases h.ids with h0 | ⟨h1, h2, h3, h4, h5, h6, h7, h8⟩
  · exact .inl h0
  · exact .inr ⟨h1, h2.kept (bl ib h2.lt h7 h8), h3, h4, h5, h6, h7, mv ib h2.lt h8⟩
/-- What the row's calls turn. -/
structure Rn (ib cg cb hg : Nat) (hv hv' : Value) (w w' : World) : Prop where
  os : w'.os = w.os
  tape : w'.tape = w.tape
  output : w'.output = w.output
  size : w.heap.size ≤ w'.heap.size
  block : ∀ k, k < w.heap.size → k ≠ ib → k ≠ cg → k ≠ cb → k ≠ hg → some k ≠ hv.ownBlock → w'.heap[k]? = w.heap[k]?
  moved : Moved hv hv' w.heap.size
theorem Rn.of_below {ib cg cb hg : Nat} {hv : Value} {w w' : World} (h : Below w.heap.size w w') : Rn ib cg cb hg hv hv w w' :=
  ⟨h.os, h.tape, h.output, h.size, fun k hk _ _ _ _ _ => h.block k hk, fun b hb => .inl hb⟩
theorem Rn.of_tn {ib cg cb hg : Nat} {hv hv' : Value} {w w' : World} (h : HQ.Tn hg hv hv' w w') : Rn ib cg cb hg hv hv' w w' :=
  ⟨h.os, h.tape, h.output, h.size, fun k hk _ _ _ h4 h5 => h.block k hk h4 h5, h.moved⟩
theorem Rn.of_cut {ib cg cb hg : Nat} {hv : Value} {w w' : World} (h : CH.Tn cg cb w w') : Rn ib cg cb hg hv hv w w' :=
  ⟨h.os, h.tape, h.output, h.size, fun k hk _ h2 h3 _ _ => h.block k hk h2 h3, fun b hb => .inl hb⟩
theorem Rn.of_set {ib cg cb hg : Nat} {hv : Value} (w : World) (o : Nat) (v : Value) : Rn ib cg cb hg hv hv w (w.setCell ⟨ib, o, none⟩ v) :=
  ⟨rfl, rfl, rfl, by simp, fun k _ h1 _ _ _ _ => Below.heap_setCell w ⟨ib, o, none⟩ v k (fun e => h1 e), fun b hb => .inl hb⟩
theorem Rn.trans {ib cg cb hg : Nat} {v v' v'' : Value} {a b c : World} (h : Rn ib cg cb hg v v' a b) (k : Rn ib cg cb hg v' v'' b c) : Rn ib cg cb hg v v'' a c :=
  ⟨k.os.trans h.os, k.tape.trans h.tape, k.output.trans h.output, Nat.le_trans h.size k.size, fun i hi h1 h2 h3 h4 h5 => (k.block i (Nat.lt_of_lt_of_le hi h.size) h1 h2 h3 h4 (fun e => by
    rcases h.moved i e.symm with h6 | h6
    · exact h5 h6.symm
    · omega)).trans (h.block i hi h1 h2 h3 h4 h5), fun b hb => by
    rcases k.moved b hb with h3 | h3
    · exact h.moved b h3
    · exact .inr (Nat.le_trans h.size h3)⟩
theorem Rn.below {base r mg ib cg cb hg : Nat} {ia : Option Addr} {ic n : Nat} {hv hv' : Value} {inn : Nat → Bool} {ids : Nat → Int} {cnt : Int} {H : List HQ.El} {w w' : World} (h : Rn ib cg cb hg hv hv' w w') (ha : RowAt w base r mg ib cg cb hg ia ic n hv inn ids cnt H) (hib : base ≤ ib) : Below base w w' :=
  ⟨h.os, h.tape, h.output, h.size, fun k hk => by
    have hl := ha.hp.low
    have hlt := ha.hp.lt
    have hlo := ha.low
    refine h.block k (by omega) (by omega) (by omega) (by omega) (by omega) (fun e => ?_)
    have := World.ownsRow.lt ha.hp.row k e.symm
    omega⟩
/-- What a push leaves: the list's things and, if there is one, the pair. -/
structure Pd (H H' : List HQ.El) (x : Bool × Int × Int × Int × Int) : Prop where
  heap : HPf HQ.keyE H 0 → HPf HQ.keyE H' 0
  sub : ∀ y ∈ H, y ∈ H'
  new : x.1 = true → ∃ y ∈ H', y.k = x.2.1 ∧ y.i = x.2.2.1 ∧ y.p = x.2.2.2.1 ∧ y.q = x.2.2.2.2
  len : H'.length ≤ H.length + 1
theorem Pd.push {H : List HQ.El} (x : HQ.El) {p : Bool × Int × Int × Int × Int} (hp : p.1 = true → x.k = p.2.1 ∧ x.i = p.2.2.1 ∧ x.p = p.2.2.2.1 ∧ x.q = p.2.2.2.2) : Pd H (pushF HQ.keyE H x) p := by
  have hm := pushF_perm HQ.keyE H x
  exact ⟨fun h => pushF_heap HQ.keyE x h, fun y hy => hm.mem_iff.2 (List.mem_cons_of_mem _ hy), fun h => ⟨x, hm.mem_iff.2 List.mem_cons_self, hp h⟩, by rw [pushF_length]; exact Nat.le_refl _⟩
set_option maxHeartbeats 1000000 in
theorem pushAt_any (base r mg ib cg cb hg lo : Nat) (ia : Option Addr) (ic n : Nat) (hv : Value) (inn : Nat → Bool) (ids : Nat → Int) (cnt : Int) (H : List HQ.El) (at_ : Int) (ws : List ByteArray) (ms : List Mg) (A B C : List Sp) (w : World)
    (hR : RowAt w base r mg ib cg cb hg ia ic n hv inn ids cnt H) (hM : ModelAt w lo mg ws ms A B C) (hI : ∀ k, k < n → W64 (ids k)) (hlen : H.length + 1 ≤ 1099511627776) :
    Calls Tryd.prog 77 #[.pointer (some ⟨r, 0, none⟩), .int .i64 at_] w fun e w' => ∃ hv' H', e = .returned (.tuple #[]) ∧ HQ.HeapAt w' base hg hv' H' ∧ Pd H H' (pairF ms inn n ids at_) ∧ HQ.Tn hg hv hv' w w' := by
  have HP := pairAt_any r mg ib cg cb lo _ ia ic n cnt inn ids at_ ws ms A B C w hR.own hR.idA hR.ch hM hI
  have hyes := pairF_yes (ms := ms) (inn := inn) (n := n) (ids := ids) (at_ := at_)
  have hn := hR.ch.le
  obtain ⟨⟨b, k, i, p, q⟩, hx⟩ : ∃ x, x = pairF ms inn n ids at_ := ⟨_, rfl⟩
  rw [← hx] at HP hyes ⊢
  unfold prV at HP
  have hlow := hR.hp.low
  cases b with
  | false =>
    clear hyes hx
    go_enter Tryd.func77, Tryd.ntmps77
    go_wp2_with fail
    refine HP.mono ?_
    rintro e w1 ⟨rfl, hb1⟩
    clear HP
    have hb2 : Below w.heap.size w (w1.alloc (.cells #[.int .i64 k, .int .i64 i, .int .i64 p, .int .i64 q] 86)) := hb1.alloc hb1.size _
    go_wp2_with fail
    go_end0
    exact ⟨hv, H, rfl, hR.hp.below hb2, ⟨fun h => h, fun y h => h, (fun h => nomatch h), (by omega)⟩, HQ.Tn.of_below hb2⟩
  | true =>
    obtain ⟨k0, k1, i1, rfl, hk0, hin, hxn, hpa, he⟩ := hyes rfl
    simp only [Prod.mk.injEq, true_and] at he
    obtain ⟨rfl, rfl, rfl, rfl⟩ := he
    obtain ⟨x, hxe⟩ : ∃ x : Nat, x = CH.nxF inn n k0 := ⟨_, rfl⟩
    rw [← hxe] at HP ⊢
    have HX : Hid (x = CH.nxF inn n k0) := hxe
    clear hx hxe hpa
    obtain ⟨E, hE⟩ : ∃ E : HQ.El, E = ⟨(k1 : Int), i, (k0 : Int), (x : Int), by omega⟩ := ⟨_, rfl⟩
    have hEv : HQ.valE E = .agg #[.int .i64 (k1 : Nat), .int .i64 i, .int .i64 (k0 : Nat), .int .i64 (x : Nat)] := by rw [hE]; rfl
    go_enter Tryd.func77, Tryd.ntmps77
    go_wp2_with fail
    refine HP.mono ?_
    rintro e w1 ⟨rfl, hb1⟩
    clear HP
    go_upto_region 2 with fail
    obtain ⟨W2, hW2⟩ : ∃ W2, W2 = w1.alloc (.cells #[.int .i64 (k1 : Nat), .int .i64 i, .int .i64 (k0 : Nat), .int .i64 (x : Nat)] 86) := ⟨_, rfl⟩
    have hb2 : Below w.heap.size w W2 := by rw [hW2]; exact hb1.alloc hb1.size _
    have hk2 : W2.heap[w1.heap.size]? = some (.cells #[.int .i64 (k1 : Nat), .int .i64 i, .int .i64 (k0 : Nat), .int .i64 (x : Nat)] 86 (0, 0)) := by rw [hW2]; exact heap_alloc_new w1 _
    rw [← hW2]
    have hr2 := (hR.own).below hb2
    have c3 := cell_regrown (cell_of_block hr2 3)
    have x0 := cell_regrown (cell_of_block hk2 0)
    have x1 := cell_regrown (cell_of_block hk2 1)
    have x2 := cell_regrown (cell_of_block hk2 2)
    have x3 := cell_regrown (cell_of_block hk2 3)
    clear hW2 hr2 hk2
    refine wp_region_quiet_tail (C := fun w' => ∃ p : Regrown, w' = grow (redrawn W2 p.d) p.os) 5 (by kernel_rfl) (by kernel_rfl) ⟨⟨_, #[]⟩, by rw [grow_empty]; rfl⟩ ?_
    simp only [List.take_succ_cons, List.take_zero, List.drop_succ_cons, List.drop_zero]
    repeat (go_big_quiet_step (fail))
    refine wpQuiet_nil ?_
    intro W5 hw'
    have hb5 : Below W2.heap.size W2 W5 := by
      obtain ⟨⟨dq, osq⟩, rfl⟩ := hw'
      exact below_regrown _ _ _
    clear hw' c3 x0 x1 x2 x3
    have hb6 := hb2.trans (hb5.mono hb2.size)
    have HU := HQ.push_any base hg hv H E W5 (hR.hp.below hb6) hlen
    rw [hEv] at HU
    go_wp2_with fail
    refine HU.mono ?_
    rintro e W7 ⟨hv', rfl, hA, ht⟩
    clear HU
    go_wp2_with fail
    go_end0
    refine ⟨hv', _, rfl, hA, Pd.push E (fun _ => by rw [hE]; exact ⟨rfl, rfl, rfl, rfl⟩), ?_⟩
    exact (HQ.Tn.of_below hb6).trans ht
end Go.Proofs.YtjbdhakogbolkaaDoor
end
section
/- bpe's row as a state: what a joined pair turns; what the heap covers. -/
namespace Go.Proofs.YtjbdhakogbolkaaDoor
open Go.RowKit
set_option linter.unusedVariables false
/-- Who stands; the ids. -/
abbrev StJ := (Nat → Bool) × (Nat → Int)
def stp (s : StJ) (x : HQ.El) : StJ := (CH.cutP s.1 x.q.toNat, updI s.2 x.p.toNat x.i)
def stJ (s : StJ) (pre : List HQ.El) : StJ := pre.foldl stp s
theorem stJ_snoc (s : StJ) (pre : List HQ.El) (x : HQ.El) : stJ s (pre ++ [x]) = stp (stJ s pre) x := by unfold stJ; rw [List.foldl_append]; rfl
/-- The pair that is joined next. -/
def IsP (ms : List Mg) (n : Nat) (s : StJ) (x : HQ.El) : Prop :=
  ∃ l k : Nat, x.p = l ∧ x.k = k ∧ x.q = (CH.nxF s.1 n l : Nat) ∧ l < n ∧ s.1 l = true ∧ CH.nxF s.1 n l < n ∧ paJ ms s.1 n s.2 l = some (k, x.i) ∧ ∀ l' k' i', paJ ms s.1 n s.2 l' = some (k', i') → k < k' ∨ (k = k' ∧ l ≤ l')
def NoP (ms : List Mg) (n : Nat) (s : StJ) : Prop := ∀ l, paJ ms s.1 n s.2 l = none
/-- Each pair that has a merge is among them. -/
def Cov (ms : List Mg) (n : Nat) (s : StJ) (L : List HQ.El) : Prop := ∀ l k i, paJ ms s.1 n s.2 l = some (k, i) → ∃ y ∈ L, y.k = (k : Nat) ∧ y.i = i ∧ y.p = (l : Nat) ∧ y.q = (CH.nxF s.1 n l : Nat)
theorem Cov.nil {ms : List Mg} {n : Nat} {s : StJ} (h : Cov ms n s []) : NoP ms n s := fun l => by
  cases hp : paJ ms s.1 n s.2 l with
  | none => rfl
  | some x =>
    obtain ⟨y, hy, _⟩ := h l x.1 x.2 hp
    cases hy
theorem paJ_some {ms : List Mg} {n : Nat} {s : StJ} {l : Nat} {x : Nat × Int} (h : paJ ms s.1 n s.2 l = some x) : l < n ∧ s.1 l = true ∧ CH.nxF s.1 n l < n ∧ mergeM ms (s.2 l) (s.2 (CH.nxF s.1 n l)) = some x := by
  unfold paJ at h
  by_cases hc : l < n ∧ s.1 l = true ∧ CH.nxF s.1 n l < n
  · rw [if_pos hc] at h; exact ⟨hc.1, hc.2.1, hc.2.2, h⟩
  · rw [if_neg hc] at h; cases h
theorem pairF_of {ms : List Mg} {n : Nat} {s : StJ} {l k : Nat} {i : Int} (h : paJ ms s.1 n s.2 l = some (k, i)) : pairF ms s.1 n s.2 (l : Nat) = (true, (k : Int), i, (l : Int), ((CH.nxF s.1 n l : Nat) : Int)) := by
  cases hb : (pairF ms s.1 n s.2 (l : Nat)).1 with
  | false => rw [pairF_no hb] at h; cases h
  | true =>
    obtain ⟨l', k', i', h1, h2, h3, h4, h5, h6⟩ := pairF_yes hb
    have : l = l' := by omega
    subst this
    rw [h5] at h
    simp only [Option.some.injEq, Prod.mk.injEq] at h
    obtain ⟨rfl, rfl⟩ := h
    exact h6
/-- Is it up to date? -/
def isNow (ms : List Mg) (n : Nat) (s : StJ) (y : HQ.El) : Prop := pairF ms s.1 n s.2 y.p = (true, y.k, y.i, y.p, y.q)
theorem isP_of {ms : List Mg} {n : Nat} {s : StJ} {y : HQ.El} {L : List HQ.El} (hc : Cov ms n s (y :: L)) (hm : ∀ z ∈ L, HQ.keyE y ≤ HQ.keyE z) (hn : isNow ms n s y) : IsP ms n s y := by
  unfold isNow at hn
  obtain ⟨l, k, i, h1, h2, h3, h4, h5, h6⟩ := pairF_yes (show (pairF ms s.1 n s.2 y.p).1 = true by rw [hn])
  rw [hn] at h6
  simp only [Prod.mk.injEq, true_and] at h6
  obtain ⟨e1, e2, e3, e4⟩ := h6
  refine ⟨l, k, h1, e1, e4, h2, h3, h4, by rw [e2]; exact h5, fun l' k' i' h => ?_⟩
  obtain ⟨z, hz, g1, g2, g3, g4⟩ := hc l' k' i' h
  have hle : ¬ HQ.keyE z < HQ.keyE y := by
    rcases List.mem_cons.1 hz with rfl | hz
    · omega
    · have := hm z hz; omega
  rw [HQ.key_lt] at hle
  omega
theorem cov_stale {ms : List Mg} {n : Nat} {s : StJ} {y : HQ.El} {L : List HQ.El} (hc : Cov ms n s (y :: L)) (hn : ¬ isNow ms n s y) : Cov ms n s L := fun l k i h => by
  obtain ⟨z, hz, g1, g2, g3, g4⟩ := hc l k i h
  rcases List.mem_cons.1 hz with rfl | hz
  · refine absurd ?_ hn
    unfold isNow
    rw [g3, pairF_of h, g1, g2, g4]
  · exact ⟨z, hz, g1, g2, g3, g4⟩
theorem cov_join {ms : List Mg} {n : Nat} {s : StJ} {y : HQ.El} {L L1 L2 : List HQ.El} (hc : Cov ms n s (y :: L)) (hp : IsP ms n s y)
    (h1 : Pd L L1 (pairF ms (stp s y).1 n (stp s y).2 (CH.prevA (stp s y).1 n y.p))) (h2 : Pd L1 L2 (pairF ms (stp s y).1 n (stp s y).2 y.p)) : Cov ms n (stp s y) L2 := by
  obtain ⟨l0, k0, e1, e2, e3, hl, hin, hx, hpa, hmin⟩ := hp
  have hxin := CH.nx_in (inn := s.1) (n := n) (i := l0) (by omega) hx
  have hxg := CH.nx_gt (inn := s.1) (n := n) (k := l0) hl
  obtain ⟨x, hxe⟩ : ∃ x, x = CH.nxF s.1 n l0 := ⟨_, rfl⟩
  have hdn : CH.dnG s.1 n x = l0 := by rw [hxe]; exact CH.dn_nx hl hin
  have hsf : (stp s y).1 = CH.cutP s.1 x := by unfold stp; rw [e3, hxe]; rfl
  have hss : (stp s y).2 = updI s.2 l0 y.i := by unfold stp; rw [e1]; rfl
  rw [← hxe] at hx hxin hxg
  intro l k i h
  by_cases hll : l = l0
  · subst hll
    have hq := pairF_of h
    rw [e1] at h2
    obtain ⟨z, hz, g1, g2, g3, g4⟩ := h2.new (by rw [hq])
    rw [hq] at g1 g2 g3 g4
    exact ⟨z, hz, g1, g2, g3, g4⟩
  · obtain ⟨k1, k2, k3, k4⟩ := paJ_some h
    rw [hsf] at k2
    have hlx : l ≠ x := fun e => by rw [e] at k2; unfold CH.cutP at k2; rw [if_pos rfl] at k2; cases k2
    have hli : s.1 l = true := by unfold CH.cutP at k2; rw [if_neg hlx] at k2; exact k2
    by_cases hnl : CH.nxF (stp s y).1 n l = l0
    · have hd := CH.dn_nx (inn := (stp s y).1) (n := n) (k := l) k1 (by rw [hsf]; exact k2)
      rw [hnl] at hd
      have hl0 : (stp s y).1 l0 = true := by rw [hsf]; unfold CH.cutP; rw [if_neg (by omega)]; exact hin
      have hpv : CH.prevA (stp s y).1 n (l0 : Nat) = (l : Nat) := by
        unfold CH.prevA
        rw [show CH.hasB (stp s y).1 n (l0 : Nat) = true by simp [CH.hasB, hl, hl0]]
        simp only [if_true, Int.toNat_natCast]
        rw [hd]
        unfold CH.numF
        rw [if_neg (by omega)]
      have hq := pairF_of h
      rw [e1, hpv] at h1
      obtain ⟨z, hz, g1, g2, g3, g4⟩ := h1.new (by rw [hq])
      rw [hq] at g1 g2 g3 g4
      exact ⟨z, h2.sub z hz, g1, g2, g3, g4⟩
    · have hnx : CH.nxF (stp s y).1 n l = CH.nxF s.1 n l := by
        rw [hsf, CH.nx_cut hx hxin (by omega) (.inr hli) hlx, hdn, if_neg hll]
      rw [hnx] at k3 k4 hnl
      have hpo : paJ ms s.1 n s.2 l = some (k, i) := by
        unfold paJ
        rw [if_pos ⟨k1, hli, k3⟩]
        rw [hss] at k4
        unfold updI at k4
        rw [if_neg hll, if_neg hnl] at k4
        exact k4
      obtain ⟨z, hz, g1, g2, g3, g4⟩ := hc l k i hpo
      rcases List.mem_cons.1 hz with rfl | hz
      · omega
      · exact ⟨z, h2.sub z (h1.sub z hz), g1, g2, g3, by rw [hnx]; exact g4⟩
/-- The list's view of it. -/
theorem IsP.isN {ms : List Mg} {n : Nat} {s : StJ} {x : HQ.El} (h : IsP ms n s x) : IsN ms (vwJ s.1 n s.2) x.k.toNat (CH.cntG s.1 x.p.toNat) x.i ∧ vwJ (stp s x).1 n (stp s x).2 = repl (vwJ s.1 n s.2) (CH.cntG s.1 x.p.toNat) x.i := by
  obtain ⟨l, k, e1, e2, e3, hl, hin, hx, hpa, hmin⟩ := h
  have hpl : x.p.toNat = l := by omega
  have hkk : x.k.toNat = k := by omega
  rw [hpl, hkk]
  refine ⟨⟨?_, fun j k' i' hj => ?_⟩, ?_⟩
  · rw [pa_mp hl hin]; exact hpa
  · obtain ⟨l', h1, h2, h3, h4⟩ := mp_pa hj
    rcases hmin l' k' i' h4 with h5 | ⟨h5, h6⟩
    · exact .inl h5
    · refine .inr ⟨h5, ?_⟩
      rw [← h3]
      exact CH.cnt_mono h6
  · have : stp s x = (CH.cutP s.1 (CH.nxF s.1 n l), updI s.2 l x.i) := by unfold stp; rw [e1, e3]; rfl
    rw [this]
    exact vw_join hl hin hx
theorem NoP.noN {ms : List Mg} {n : Nat} {s : StJ} (h : NoP ms n s) : NoN ms (vwJ s.1 n s.2) := fun j => by
  cases hj : mpJ ms (vwJ s.1 n s.2) j with
  | none => rfl
  | some x =>
    obtain ⟨l, h1, h2, h3, h4⟩ := mp_pa hj
    rw [h l] at h4
    cases h4
theorem IsP.cnt {ms : List Mg} {n : Nat} {s : StJ} {x : HQ.El} (h : IsP ms n s x) : CH.cntG (stp s x).1 n + 1 = CH.cntG s.1 n := by
  obtain ⟨l, k, e1, e2, e3, hl, hin, hx, hpa, hmin⟩ := h
  have hc := CH.cnt_cut s.1 (CH.nx_in (inn := s.1) (n := n) (i := l) (by omega) hx) n
  rw [if_pos hx] at hc
  have : (stp s x).1 = CH.cutP s.1 (CH.nxF s.1 n l) := by unfold stp; rw [e3]; rfl
  rw [this]
  exact hc
end Go.Proofs.YtjbdhakogbolkaaDoor
end
