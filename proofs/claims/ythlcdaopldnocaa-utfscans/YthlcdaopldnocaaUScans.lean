/- UtfScans: the walk. -/
import Derived.Test.YthlcdaopldnocaaUMoved
import Derived.Test.YthlcdaopldnocaaUScan
import Derived.Test.YthlcdaopldnocaaUWithin
import Derived.Test.YthlcdaopldnocaaURange
import Derived.Test.YthlcdaopldnocaaURegion
import Derived.OrdersHeld
namespace Go.Proofs.Ythlcdaopldnocaa
open Go.RowKit Go.Lib Go.Sort Go.Joins
section
variable {P : Program} {ops : Array Oper} {md : Region.Mode} {Q : Exit → Act → World → Prop} {S : World → Prop}
/-- From here on just one operation may come up at a time: those numbered is. -/
def oneB (md : Region.Mode) (ops : Array Oper) : List Nat → Array Bool → Bool
  | [], listed => decide (Region.ready md ops listed = [])
  | i :: is, listed => decide (Region.ready md ops listed = [i]) && oneB md ops is (listed.setIfInBounds i true)
def pick (l : List Oper) : List Nat → List Oper
  | [] => []
  | i :: is => (l.drop i).take 1 ++ pick l is
theorem wpAny_one (l : List Oper) : ∀ (is : List Nat) (listed : Array Bool) (a : Act) (w : World), (∀ i ∈ is, i < l.length) → oneB md l.toArray is listed = true →
    wpList P l.toArray Q (pick l is) a w → wpAny P md l.toArray Q is.length listed a w
  | [], _, _, _, _, hB, h => ⟨of_decide_eq_true hB, h⟩
  | i :: is, listed, a, w, hl, hB, h => by
    simp only [oneB, Bool.and_eq_true, decide_eq_true_eq] at hB
    have hi := hl i (List.mem_cons_self ..)
    have h0 : l.toArray[i]? = some l[i] := by simp [hi]
    have h1 : pick l (i :: is) = l[i] :: pick l is := by
      show (l.drop i).take 1 ++ pick l is = _
      rw [List.drop_eq_getElem_cons hi]
      rfl
    rw [h1] at h
    refine ⟨fun e => (by rw [hB.1] at e; cases e), fun k hk => ?_⟩
    rw [hB.1] at hk
    obtain rfl : k = i := by simpa using hk
    have hw : wpOp P l.toArray Q k (wpList P l.toArray Q (pick l is)) a w := by unfold wpOp; simp only [h0]; exact h
    exact wpOp_mono (fun a' w' h' => wpAny_one l is _ a' w' (fun j hj => hl j (List.mem_cons_of_mem _ hj)) hB.2 h') hw
/-- A move may be taken first. -/
theorem wpAny_move {i fuel : Nat} {oi : Oper} (x : Operand) {listed : Array Bool} {a : Act} {w : World} (hi : ops[i]? = some oi) (ho : oi.op = .move x) (hg : oi.guard = none)
    (hs : Region.noSelect ops = true) (hf : Region.free md ops listed i = true) (hr : (Region.ready md ops listed).contains i = true)
    (hQ : ∀ c (a' : Act) w v, Q (.panic c) (a'.put oi.dst v) w → Q (.panic c) a' w)
    (h : wpAny P md ops Q fuel (listed.setIfInBounds i true) (a.put oi.dst (a.eval x)) w) : wpAny P md ops Q (fuel + 1) listed a w :=
  wpAny_take hi hs hf hr (fun c a' w' h => hQ c a' w' _ h) (.inl ⟨by simp [Region.wanted, hg], fun w' => by simp [execOp, ho, Sem.run_pure]⟩) h
/-- Two may come up: a load, which yields the same on either side of the other. It is taken first; behind the two one at a time. -/
theorem wpAny_load {i j : Nat} {oi oj : Oper} {u : Value} {listed : Array Bool} {a : Act} {w : World} (l : List Oper) (is : List Nat) (hi : l.toArray[i]? = some oi) (hj : l.toArray[j]? = some oj)
    (hs : Region.noSelect l.toArray = true) (hap : oj.apart l.toArray oi = true) (hij : i ≠ j)
    (hr : Region.ready md l.toArray listed = [i, j]) (hri : Region.ready md l.toArray (listed.setIfInBounds i true) = [j]) (hrj : Region.ready md l.toArray (listed.setIfInBounds j true) = [i])
    (hB : oneB md l.toArray is ((listed.setIfInBounds j true).setIfInBounds i true) = true) (hl : ∀ i ∈ is, i < l.length)
    (hQ : ∀ c (a' : Act) w v, Q (.panic c) (a'.put oj.dst v) w → Q (.panic c) a' w)
    (hy : YieldsIf P l.toArray S oj u a) (hS : S w) (hg : oi.guard = none)
    (h : ∀ K : Act → World → Prop, (∀ a' w', S w' → wpList P l.toArray Q (pick l is) a' w' → K a' w') → oi.wp P (a.put oj.dst u) w K Q) :
    wpAny P md l.toArray Q (is.length + 2) listed a w := by
  have hsel := Region.noSelect_spec hs
  have h1 : wpOp P l.toArray Q i (fun a' w' => S w' ∧ wpAny P md l.toArray Q is.length ((listed.setIfInBounds j true).setIfInBounds i true) a' w') (a.put oj.dst u) w := by
    unfold wpOp
    simp only [hi, Region.wanted, hg, if_true]
    exact .inl (h _ fun a' w' hs' hw' => ⟨hs', wpAny_one l is _ a' w' hl hB hw'⟩)
  refine ⟨fun e => (by rw [hr] at e; cases e), fun k hk => ?_⟩
  rw [hr] at hk
  have hk' : k = i ∨ k = j := by simpa using hk
  rcases hk' with rfl | rfl
  · have h2 := wpOp_putIf hi hap (fun cs b => hsel j oj cs b hj) (fun cs b => hsel k oi cs b hi) (fun c a' w' h => hQ c a' w' _ h) hy h1
    refine wpOp_mono (fun a' w' h3 => ?_) h2
    refine ⟨fun e => (by rw [hri] at e; cases e), fun m hm => ?_⟩
    rw [hri] at hm
    obtain rfl : m = j := by simpa using hm
    refine h3.1.wpOp hj h3.2.1 ?_
    rw [Array.setIfInBounds_comm _ _ hij]
    exact h3.2.2
  · refine hy.wpOp hj hS ?_
    refine ⟨fun e => (by rw [hrj] at e; cases e), fun m hm => ?_⟩
    rw [hrj] at hm
    obtain rfl : m = i := by simpa using hm
    exact wpOp_mono (fun a' w' h3 => h3.2) h1
end
/-- What one byte more brings. -/
theorem scan_step (l : List UInt8) (i F : Nat) (hi : i < l.length) :
    compI 0 (l.take (i + 1)) = compI 0 (l.take i) ++ compI (i - (heldL (l.take i)).length) (heldL (l.take i) ++ [l[i]]) ∧
    heldL (l.take (i + 1)) = heldL (heldL (l.take i) ++ [l[i]]) ∧
    shiftI F (compI (i - (heldL (l.take i)).length) (heldL (l.take i) ++ [l[i]])) = compI (F + i - (heldL (l.take i)).length) (heldL (l.take i) ++ [l[i]]) := by
  have h1 : l.take (i + 1) = l.take i ++ [l[i]] := by rw [List.take_add_one, List.getElem?_eq_getElem hi]; rfl
  have h2 : (l.take i).length = i := by simp; omega
  have h3 := (heldL_three (l.take i)).2
  rw [h2] at h3
  refine ⟨?_, by rw [h1, held_append], ?_⟩
  · rw [h1, comp_append, h2, Nat.zero_add]
  · rw [shift_comp, show i - (heldL (l.take i)).length + F = F + i - (heldL (l.take i)).length by omega]
theorem scan_end (l : List UInt8) (F : Nat) :
    items 0 l = compI 0 l ++ badsAt (l.length - (heldL l).length) (heldL l).length ∧ shiftI F (badsAt (l.length - (heldL l).length) (heldL l).length) = badsAt (F + l.length - (heldL l).length) (heldL l).length := by
  have h3 := (heldL_three l).2
  refine ⟨by rw [items_comp, Nat.zero_add], ?_⟩
  rw [shift_bads, show l.length - (heldL l).length + F = F + l.length - (heldL l).length by omega]
/-- Behind the first items of a row. -/
theorem badsAt_frm (n : Nat) : ∀ k, ∀ x ∈ badsAt k n, x.frm ≤ k + n := by
  induction n with
  | zero => intro k x hx; cases hx
  | succ n ih =>
    intro k x hx
    rcases List.mem_cons.1 (show x ∈ (⟨k, 1, 65533, true⟩ : It) :: badsAt (k + 1) n from hx) with rfl | hx
    · show k ≤ _; omega
    · have := ih _ x hx; omega
theorem OwnI.from {T : TypeId} {w : World} {base : Nat} {v : Value} {A B : List It} (h : OwnI T w base v (A ++ B)) :
    (A = [] ∧ B = [] ∧ v = .slice none 0 0) ∨ ∃ g cap, v = .slice (some ⟨g, 0, none⟩) (A.length + B.length) cap ∧ A.length + B.length ≤ cap ∧ cap ≤ 9223372036854775807 ∧ ITP w (some ⟨g, A.length * 4, none⟩) B := by
  by_cases hn : A ++ B = []
  · obtain ⟨rfl, rfl⟩ := List.append_eq_nil_iff.1 hn
    exact .inl ⟨rfl, rfl, h.2.2 rfl⟩
  · obtain ⟨g, cap, hv, hg, hgl, hc, hc2, hi⟩ := h.form hn
    rw [List.length_append] at hv hc
    refine .inr ⟨g, cap, hv, hc, hc2, .inr ⟨g, A.length * 4, rfl, fun i x hx => ?_⟩⟩
    have := hi (A.length + i) x (by rw [List.getElem?_append_right (by omega), Nat.add_sub_cancel_left]; exact hx)
    obtain ⟨h0, h1, h2, h3⟩ := this
    rw [Nat.add_mul] at h0 h1 h2 h3
    exact ⟨h0, h1, h2, h3⟩
theorem compI_frm (l : List UInt8) : ∀ k, ∀ x ∈ compI k l, x.frm ≤ k + l.length := by
  refine bytes_ind (p := fun l => ∀ k, ∀ x ∈ compI k l, x.frm ≤ k + l.length) (fun k x hx => by rw [compI_nil] at hx; cases hx) (fun l h ih k x hx => ?_) l
  by_cases hh : isHeld l = true
  · rw [compI_held k l hh] at hx; cases hx
  · rw [compI_step k l h hh] at hx
    have h3 := wid_le l h
    rcases List.mem_cons.1 hx with rfl | hx
    · rw [headIt_frm]; omega
    · have := ih _ (drop_wid_lt l h) _ x hx
      rw [List.length_drop] at this
      omega
set_option maxRecDepth 100000 in
set_option maxHeartbeats 4000000 in
theorem utfscans_walk (s0 : ByteArray) (cut : Int) (w : World) :
    Calls Try.prog 6 #[.string s0, .int .i64 cut] w fun e w' => e = .returned (.bool true) ∧ Below w.heap.size w w' := by
  go_enter Try.func6, Try.ntmps6
  go_wp2_with fail
  refine (few_any s0 400 _).mono ?_; rintro e w0 ⟨s, hs, rfl, he⟩
  obtain rfl := he.symm
  go_wp2_with fail
  refine (within_any cut s.size (by omega) _).mono ?_; rintro e w0 ⟨k, hk, rfl, he⟩
  obtain rfl := he.symm
  go_wp2_with fail
  refine (new_any _).mono ?_; rintro e w1 ⟨rfl, s1, hb1, z1⟩
  go_wp2_with fail
  refine wp_region_quiet_tail (C := fun w' => ∃ n, w' = w1.drewN n) 6 (by kernel_rfl) (by kernel_rfl) ⟨1, rfl⟩ ?_
  simp only [List.take_succ_cons, List.take_zero, List.drop_succ_cons, List.drop_zero]
  repeat (go_big_quiet_step (fail))
  refine wpQuiet_nil ?_
  rintro W0 ⟨nq, rfl⟩
  go_wp2_with fail
  have hb2 : w.heap.size < w1.heap.size := by omega
  have hBW : Below w.heap.size w ((w1.drewN nq).alloc (.cells #[.string (s.extract 0 k), .string (s.extract k s.size)] 9)) := (below_drewN hb1 nq).alloc (by simp; omega) _
  have hPW : ((w1.drewN nq).alloc (.cells #[.string (s.extract 0 k), .string (s.extract k s.size)] 9)).heap[w.heap.size + 1]? = some (.cells #[.string (s.extract 0 k), .string (s.extract k s.size)] 9 (0, 0)) := by
    rw [← z1]
    exact World.alloc_heap_new (w1.drewN nq) _
  have hSW := s1.below (W' := (w1.drewN nq).alloc (.cells #[.string (s.extract 0 k), .string (s.extract k s.size)] 9)) ((below_drewN (Below.refl _ _) nq).alloc (Nat.le_refl _) _) hb2
  obtain ⟨W1, hW1⟩ : ∃ W1, W1 = (w1.drewN nq).alloc (.cells #[.string (s.extract 0 k), .string (s.extract k s.size)] 9) := ⟨_, rfl⟩
  rw [← hW1] at hBW hPW hSW ⊢
  have hZ : w.heap.size + 2 ≤ W1.heap.size := by rw [hW1]; simp; omega
  clear hW1 s1 hb1 z1 hb2
  obtain ⟨B, hBd⟩ : ∃ B : Obj, B = .cells #[.string (s.extract 0 k), .string (s.extract k s.size)] 9 (0, 0) := ⟨_, rfl⟩
  have hX : ∀ j : Nat, j < 2 → ∃ X : ByteArray, X.size ≤ 400 ∧ ∀ W : World, W.heap[w.heap.size + 1]? = some B → W.cell? ⟨w.heap.size + 1, j, none⟩ = some (.string X) := fun j hj => by
    subst hBd
    have hj' : j = 0 ∨ j = 1 := by omega
    rcases hj' with rfl | rfl
    · exact ⟨s.extract 0 k, by simp; omega, fun W h => by rw [cell_of_block h]; rfl⟩
    · exact ⟨s.extract k s.size, by simp; omega, fun W h => by rw [cell_of_block h]; rfl⟩
  rw [← hBd] at hPW
  clear hBd
  go_loopw [7, 8] (fun fr p wr => ∃ (j F : Nat) (q : List UInt8), j ≤ 2 ∧ fr = .int .i64 (F : Nat) ∧ p = .int .i64 (j : Nat) ∧ F ≤ j * 400 ∧ SC wr w.heap.size q 0 F ∧ wr.heap[w.heap.size + 1]? = some B ∧ w.heap.size + 2 ≤ wr.heap.size ∧ Below w.heap.size w wr) (fun _ p _ => 2 - (intOf p).toNat)
  case atStart => exact ⟨0, 0, _, by omega, rfl, rfl, by omega, hSW, hPW, hZ, hBW⟩
  case round =>
    obtain ⟨j, F, q, hj, rfl, rfl, hF, hsc, hP, hz, hB⟩ := hrel
    clear hSW hPW hZ hBW
    by_cases hlt : j < 2
    · obtain ⟨X, hXs, hXc⟩ := hX j hlt
      clear hX
      have HB : Hid (Below w.heap.size w wr) := hB
      have hXc1 := hXc wr hP
      have hj0 : (0 : Int) ≤ (j : Int) := by omega
      have hj2 : (j : Int) < 2 := by omega
      clear hB
      go_wp2_with fail
      go_loopw [9, 10] (fun told i wi => ∃ (m : Nat) (q : List UInt8), m ≤ X.size ∧ told = .int .i64 ((compI 0 ((tl X).take m)).length : Nat) ∧ i = .int .i64 (m : Nat) ∧ q.take (heldL ((tl X).take m)).length = heldL ((tl X).take m) ∧ SC wi w.heap.size q (heldL ((tl X).take m)).length (F + m) ∧ wi.heap[w.heap.size + 1]? = some B ∧ w.heap.size + 2 ≤ wi.heap.size ∧ Below w.heap.size w wi) (fun _ i _ => X.size - (intOf i).toNat)
      case atStart => exact ⟨0, q, Nat.zero_le _, rfl, rfl, rfl, hsc, hP, hz, HB.out⟩
      case round =>
        obtain ⟨m, q, hm, rfl, rfl, hq, hsc, hP, hz, hB⟩ := hrel
        have hXc1 := hXc wr hP
        by_cases hm2 : m < X.size
        · have hml : m < (tl X).length := by rw [tl_len]; exact hm2
          obtain ⟨e1, e2, e3⟩ := scan_step (tl X) m F hml
          have hh := heldL_three ((tl X).take m)
          have hH := heldL_three (heldL ((tl X).take m) ++ [(tl X)[m]])
          have hcl := compI_length ((tl X).take m) 0
          have hcn := compI_length (heldL ((tl X).take m) ++ [(tl X)[m]]) (m - (heldL ((tl X).take m)).length)
          have hcr := compI_length (heldL ((tl X).take m) ++ [(tl X)[m]]) (F + m - (heldL ((tl X).take m)).length)
          have hnf := compI_frm (heldL ((tl X).take m) ++ [(tl X)[m]]) (m - (heldL ((tl X).take m)).length)
          have HP := fun h3 hn hn2 => put_any w.heap.size (F + m) q (heldL ((tl X).take m)) (tl X)[m] wr hq h3 hn hn2 hsc
          have HC := fun wx => complete_any (X.extract 0 (m + 1)) (by simp; omega) wx
          rw [tl_extract, List.drop_zero, Nat.sub_zero, e1, e2, show (X.extract 0 (m + 1)).size = m + 1 by simp; omega] at HC
          rw [show (tl X)[m] = X[m] from rfl] at *
          rw [List.length_append, List.length_singleton] at hH hcn hcr hnf
          rw [List.length_take, tl_len, Nat.min_eq_left hm] at hcl hh
          generalize heldL (heldL ((tl X).take m) ++ [X[m]]) = H at *
          generalize compI (F + m - (heldL ((tl X).take m)).length) (heldL ((tl X).take m) ++ [X[m]]) = R at *
          generalize compI (m - (heldL ((tl X).take m)).length) (heldL ((tl X).take m) ++ [X[m]]) = N at *
          generalize heldL ((tl X).take m) = h at *
          have HA : Hid (compI 0 ((tl X).take m) = compI 0 ((tl X).take m)) := rfl
          have HE1 : Hid (compI 0 ((tl X).take (m + 1)) = compI 0 ((tl X).take m) ++ N) := e1
          have HE2 : Hid (heldL ((tl X).take (m + 1)) = H) := e2
          have HE3 : Hid (shiftI F N = R) := e3
          clear e1 e2 e3
          generalize compI 0 ((tl X).take m) = A at *
          go_wp2_with fail
          refine (HP hh.1 (by omega) (by omega)).mono ?_; rintro e w2 ⟨v2, rfl, o2, ⟨q2, t2, s2⟩, b2⟩
          obtain ⟨a2, c2, rfl, i2, l2⟩ := o2.its
          clear HP o2 hsc
          have hP2 := (b2.2.2.2.2 (w.heap.size + 1) (by omega) (by omega)).trans hP
          have hXc2 := hXc w2 hP2
          have hB2 := hB.trans (b2.below (B' := w.heap.size) (by omega) (by omega))
          have hz2 : w.heap.size + 2 ≤ w2.heap.size := Nat.le_trans hz b2.2.2.2.1
          clear hXc1 hP hB b2
          go_wp2_with fail
          refine (HC _).mono ?_; rintro e w3 ⟨v3, rfl, o3, b3⟩
          clear HC
          rcases o3.from with ⟨rfl, rfl, rfl⟩ | ⟨g, cap, rfl, hc, hc2, hi⟩
          · skip
            go_wp2_with fail
            refine (moved_any none 0 F [] w3 (by simp) (by omega) (fun x hx => by have := hnf x hx; omega) (.inl rfl)).mono ?_; rintro e w4 ⟨v4, rfl, o4, b4⟩
            rw [HE3.out] at o4
            obtain ⟨a4, c4, rfl, i4, l4⟩ := o4.its
            have i2' := (i2.below b3).below b4
            have s4 := (s2.below b3 (by omega)).below b4 (by have := b3.size; omega)
            have hP4 := (b4.block _ (by have := b3.size; omega)).trans ((b3.block _ (by omega)).trans hP2)
            have hB4 := (hB2.trans (b3.mono (by omega))).trans (b4.mono (by have := b3.size; omega))
            have hz4 : w.heap.size + 2 ≤ w4.heap.size := Nat.le_trans hz2 (Nat.le_trans b3.size b4.size)
            clear o4 i2 s2 hP2 hB2 hz2 hXc2 b3 b4 o3
            go_wp2_with fail
            refine (same_eq _ _ _ _ R w4 (by omega) i2' i4).mono ?_; rintro e w5 ⟨rfl, b5⟩
            have s5 := s4.below b5 (by omega)
            have hP5 := (b5.block _ (by omega)).trans hP4
            have hB5 := hB4.trans (b5.mono (by omega))
            have hz5 : w.heap.size + 2 ≤ w5.heap.size := Nat.le_trans hz4 b5.size
            clear s4 hP4 hB4 hz4 b5 i2' i4
            go_wp2_with fail
            refine (held_any _ _ _ _ w5 s5).mono ?_; rintro e w6 ⟨rfl, he⟩
            obtain rfl := he.symm
            go_wp2_with fail
            refine (count_any _ _ _ _ w5 s5).mono ?_; rintro e w6 ⟨rfl, he⟩
            obtain rfl := he.symm
            go_wp2_with fail
            refine (held_any _ _ _ _ w5 s5).mono ?_; rintro e w6 ⟨rfl, he⟩
            obtain rfl := he.symm
            go_wp2_with fail
            go_roundw
            case rel => exact ⟨m + 1, q2, by omega, by rw [HE1.out]; simp, by go_num, by rw [HE2.out]; exact t2, by rw [HE2.out]; exact s5, hP5, hz5, hB5⟩
            case measure => simp [intOf]; omega
          · by_cases hcA : cap = A.length
            · obtain rfl : N = [] := List.length_eq_zero_iff.1 (by omega)
              subst hcA
              go_wp2_with fail
              refine (moved_any _ 0 F [] w3 (by simp) (by omega) (fun x hx => by have := hnf x hx; omega) (.inl rfl)).mono ?_; rintro e w4 ⟨v4, rfl, o4, b4⟩
              rw [HE3.out] at o4
              obtain ⟨a4, c4, rfl, i4, l4⟩ := o4.its
              have i2' := (i2.below b3).below b4
              have s4 := (s2.below b3 (by omega)).below b4 (by have := b3.size; omega)
              have hP4 := (b4.block _ (by have := b3.size; omega)).trans ((b3.block _ (by omega)).trans hP2)
              have hB4 := (hB2.trans (b3.mono (by omega))).trans (b4.mono (by have := b3.size; omega))
              have hz4 : w.heap.size + 2 ≤ w4.heap.size := Nat.le_trans hz2 (Nat.le_trans b3.size b4.size)
              clear o4 i2 s2 hP2 hB2 hz2 hXc2 b3 b4 o3
              go_wp2_with fail
              refine (same_eq _ _ _ _ R w4 (by omega) i2' i4).mono ?_; rintro e w5 ⟨rfl, b5⟩
              have s5 := s4.below b5 (by omega)
              have hP5 := (b5.block _ (by omega)).trans hP4
              have hB5 := hB4.trans (b5.mono (by omega))
              have hz5 : w.heap.size + 2 ≤ w5.heap.size := Nat.le_trans hz4 b5.size
              clear s4 hP4 hB4 hz4 b5 i2' i4
              go_wp2_with fail
              refine (held_any _ _ _ _ w5 s5).mono ?_; rintro e w6 ⟨rfl, he⟩
              obtain rfl := he.symm
              go_wp2_with fail
              refine (count_any _ _ _ _ w5 s5).mono ?_; rintro e w6 ⟨rfl, he⟩
              obtain rfl := he.symm
              go_wp2_with fail
              refine (held_any _ _ _ _ w5 s5).mono ?_; rintro e w6 ⟨rfl, he⟩
              obtain rfl := he.symm
              go_wp2_with fail
              go_roundw
              case rel => exact ⟨m + 1, q2, by omega, by rw [HE1.out]; simp, by go_num, by rw [HE2.out]; exact t2, by rw [HE2.out]; exact s5, hP5, hz5, hB5⟩
              case measure => simp [intOf]; omega
            · skip
              go_wp2_with fail
              refine (moved_any _ _ F N w3 (by omega) (by omega) (fun x hx => by have := hnf x hx; omega) hi).mono ?_; rintro e w4 ⟨v4, rfl, o4, b4⟩
              rw [HE3.out] at o4
              obtain ⟨a4, c4, rfl, i4, l4⟩ := o4.its
              have i2' := (i2.below b3).below b4
              have s4 := (s2.below b3 (by omega)).below b4 (by have := b3.size; omega)
              have hP4 := (b4.block _ (by have := b3.size; omega)).trans ((b3.block _ (by omega)).trans hP2)
              have hB4 := (hB2.trans (b3.mono (by omega))).trans (b4.mono (by have := b3.size; omega))
              have hz4 : w.heap.size + 2 ≤ w4.heap.size := Nat.le_trans hz2 (Nat.le_trans b3.size b4.size)
              clear o4 i2 s2 hP2 hB2 hz2 hXc2 b3 b4 o3
              go_wp2_with fail
              refine (same_eq _ _ _ _ R w4 (by omega) i2' i4).mono ?_; rintro e w5 ⟨rfl, b5⟩
              have s5 := s4.below b5 (by omega)
              have hP5 := (b5.block _ (by omega)).trans hP4
              have hB5 := hB4.trans (b5.mono (by omega))
              have hz5 : w.heap.size + 2 ≤ w5.heap.size := Nat.le_trans hz4 b5.size
              clear s4 hP4 hB4 hz4 b5 i2' i4
              go_wp2_with fail
              refine (held_any _ _ _ _ w5 s5).mono ?_; rintro e w6 ⟨rfl, he⟩
              obtain rfl := he.symm
              go_wp2_with fail
              refine (count_any _ _ _ _ w5 s5).mono ?_; rintro e w6 ⟨rfl, he⟩
              obtain rfl := he.symm
              go_wp2_with fail
              refine (held_any _ _ _ _ w5 s5).mono ?_; rintro e w6 ⟨rfl, he⟩
              obtain rfl := he.symm
              go_wp2_with fail
              go_roundw
              case rel => exact ⟨m + 1, q2, by omega, by rw [HE1.out]; simp, by go_num, by rw [HE2.out]; exact t2, by rw [HE2.out]; exact s5, hP5, hz5, hB5⟩
              case measure => simp [intOf]; omega
        · obtain rfl : m = X.size := by omega
          obtain ⟨e1, e2⟩ := scan_end (tl X) F
          have hh := heldL_three (tl X)
          have hcl := compI_length (tl X) 0
          rw [List.take_of_length_le (show (tl X).length ≤ X.size by rw [tl_len]; exact Nat.le_refl _)] at hq hsc ⊢
          rw [tl_len] at e1 e2 hh hcl
          have HI := fun wx => refitems_any X (by omega) wx
          rw [e1] at HI
          have hN := badsAt_length (heldL (tl X)).length (X.size - (heldL (tl X)).length)
          have hR := badsAt_length (heldL (tl X)).length (F + X.size - (heldL (tl X)).length)
          have HE2 : Hid (shiftI F (badsAt (X.size - (heldL (tl X)).length) (heldL (tl X)).length) = badsAt (F + X.size - (heldL (tl X)).length) (heldL (tl X)).length) := e2
          have hnf := badsAt_frm (heldL (tl X)).length (X.size - (heldL (tl X)).length)
          clear e1 e2 hq
          generalize heldL (tl X) = h at *
          generalize compI 0 (tl X) = A at *
          generalize badsAt (X.size - h.length) h.length = N at *
          obtain ⟨R, hRd⟩ : ∃ R, R = badsAt (F + X.size - h.length) h.length := ⟨_, rfl⟩
          rw [← hRd] at hR HE2
          have HRd : Hid (badsAt (F + X.size - h.length) h.length = R) := hRd.symm
          clear hRd
          have hR' : Hid (R.length = h.length) := hR
          have hN3 : N.length ≤ 3 := by rw [hN]; exact hh.1
          clear hR hN
          go_wp2_with fail
          refine wp_region_any (by kernel_rfl) ?_
          show wpAny _ _ _ _ 24 _ _ _
          refine wpAny_move (i := 0) (.tmp 5) rfl rfl rfl (by kernel_rfl) (by kernel_rfl) (by kernel_rfl) (fun _ _ _ _ h => h) ?_
          obtain ⟨W, hW⟩ : ∃ W, W = wr.drew := ⟨_, rfl⟩
          have hsc' : SC W w.heap.size q h.length (F + X.size) := by rw [hW]; exact ⟨hsc.1, hsc.2⟩
          have hP' : W.heap[w.heap.size + 1]? = some B := by rw [hW]; exact hP
          have hz' : w.heap.size + 2 ≤ W.heap.size := by rw [hW]; exact hz
          have hB' : Below w.heap.size w W := by rw [hW]; exact below_drewN hB 1
          rw [show ({ wr with drawn := wr.drawn + 1 } : World) = W from hW.symm]
          clear hW hsc hP hz hB hXc1
          refine wpAny_move (i := 2) (.tmp 6) rfl rfl rfl (by kernel_rfl) (by kernel_rfl) (by kernel_rfl) (fun _ _ _ _ h => h) ?_
          refine wpAny_move (i := 3) (.tmp 8) rfl rfl rfl (by kernel_rfl) (by kernel_rfl) (by kernel_rfl) (fun _ _ _ _ h => h) ?_
          go_simp
          refine wpAny_take (i := 4) (v := .pointer (some ⟨w.heap.size + 1, j, none⟩)) rfl (by kernel_rfl) (by kernel_rfl) (by kernel_rfl) (fun _ _ _ h => h) (.inl ⟨by kernel_rfl, fun w' => by go_simp⟩) ?_
          refine wpAny_move (i := 7) (.tmp 9) rfl rfl rfl (by kernel_rfl) (by kernel_rfl) (by kernel_rfl) (fun _ _ _ _ h => h) ?_
          refine wpAny_move (i := 9) (.tmp 7) rfl rfl rfl (by kernel_rfl) (by kernel_rfl) (by kernel_rfl) (fun _ _ _ _ h => h) ?_
          go_simp
          refine wpAny_load (i := 1) (j := 5) (u := .string X) (S := fun w' => w'.cell? ⟨w.heap.size + 1, j, none⟩ = some (.string X)) _ [6, 8, 10, 11, 12, 13, 14, 15, 16, 17, 18, 19, 20, 21, 22, 23] rfl rfl (by kernel_rfl) (by kernel_rfl) (by omega) (by kernel_rfl) (by kernel_rfl) (by kernel_rfl) (by kernel_rfl) (by simp) (fun _ _ _ _ h => h) (.inl ⟨by kernel_rfl, fun w' hw' => by go_simp⟩) (hXc W hP') rfl ?_
          intro K hK
          simp only [pick, List.take_succ_cons, List.take_zero, List.drop_succ_cons, List.drop_zero, List.nil_append, List.cons_append] at hK
          go_simp
          refine (end_any _ _ _ _ W hsc' (by omega) (by omega) (by omega)).mono ?_; rintro e w2 ⟨v2, rfl, o2, s2, b2⟩
          have hP2 := (b2.2.2.2.2 (w.heap.size + 1) (by omega) (by omega)).trans hP'
          have hB2 := hB'.trans (b2.below (B' := w.heap.size) (by omega) (by omega))
          have hz2 : w.heap.size + 2 ≤ w2.heap.size := Nat.le_trans hz' b2.2.2.2.1
          have o2' : OwnI 30 w2 W.heap.size v2 R := by rw [← HRd.out]; exact o2
          clear o2 hsc' hP' hB' hz' b2
          obtain ⟨a2, c2, rfl, i2, l2⟩ := o2'.its
          clear o2'
          go_simp
          refine hK _ _ (hXc w2 hP2) ?_
          clear hK K
          go_wp2_with fail
          refine (HI _).mono ?_; rintro e w3 ⟨v3, rfl, o3, b3⟩
          clear HI
          rcases o3.from with ⟨rfl, rfl, rfl⟩ | ⟨g, cap, rfl, hc, hc2, hi⟩
          · skip
            go_wp2_with fail
            refine (moved_any none 0 F [] w3 (by simp) (by omega) (fun x hx => by have := hnf x hx; omega) (.inl rfl)).mono ?_; rintro e w4 ⟨v4, rfl, o4, b4⟩
            rw [HE2.out] at o4
            obtain ⟨a4, c4, rfl, i4, l4⟩ := o4.its
            have i2' := (i2.below b3).below b4
            have s4 := (s2.below b3 (by omega)).below b4 (by have := b3.size; omega)
            have hP4 := (b4.block _ (by have := b3.size; omega)).trans ((b3.block _ (by omega)).trans hP2)
            have hB4 := (hB2.trans (b3.mono (by omega))).trans (b4.mono (by have := b3.size; omega))
            have hz4 : w.heap.size + 2 ≤ w4.heap.size := Nat.le_trans hz2 (Nat.le_trans b3.size b4.size)
            clear o4 i2 s2 hP2 hB2 hz2 b3 b4 o3
            go_wp2_with fail
            refine (same_eq _ _ _ _ R w4 (by have := hR'.out; omega) i2' i4).mono ?_; rintro e w5 ⟨rfl, b5⟩
            have s5 := s4.below b5 (by omega)
            have hP5 := (b5.block _ (by omega)).trans hP4
            have hB5 := hB4.trans (b5.mono (by omega))
            have hz5 : w.heap.size + 2 ≤ w5.heap.size := Nat.le_trans hz4 b5.size
            clear s4 hP4 hB4 hz4 b5 i2' i4
            go_wp2_with fail
            refine (held_any _ _ _ _ w5 s5).mono ?_; rintro e w6 ⟨rfl, he⟩
            obtain rfl := he.symm
            go_wp2_with fail
            refine (end_any _ _ _ _ w5 s5 (by omega) (by omega) (by omega)).mono ?_; rintro e w6 ⟨v6, rfl, o6, s6, b6⟩
            obtain rfl : v6 = .slice none 0 0 := o6.2.2 rfl
            have hP6 := (b6.2.2.2.2 (w.heap.size + 1) (by omega) (by omega)).trans hP5
            have hB6 := hB5.trans (b6.below (B' := w.heap.size) (by omega) (by omega))
            have hz6 : w.heap.size + 2 ≤ w6.heap.size := Nat.le_trans hz5 b6.2.2.2.1
            have hXc6 := hXc w6 hP6
            clear s5 hP5 hB5 hz5 b6 o6
            go_wp2_with fail
            go_roundw
            case rel => exact ⟨j + 1, F + X.size, q, by omega, by go_num, by go_num, by omega, s6, hP6, hz6, hB6⟩
            case measure => simp [intOf]; omega
          · by_cases hcA : cap = A.length
            · obtain rfl : N = [] := List.length_eq_zero_iff.1 (by omega)
              subst hcA
              go_wp2_with fail
              refine (moved_any _ 0 F [] w3 (by simp) (by omega) (fun x hx => by have := hnf x hx; omega) (.inl rfl)).mono ?_; rintro e w4 ⟨v4, rfl, o4, b4⟩
              rw [HE2.out] at o4
              obtain ⟨a4, c4, rfl, i4, l4⟩ := o4.its
              have i2' := (i2.below b3).below b4
              have s4 := (s2.below b3 (by omega)).below b4 (by have := b3.size; omega)
              have hP4 := (b4.block _ (by have := b3.size; omega)).trans ((b3.block _ (by omega)).trans hP2)
              have hB4 := (hB2.trans (b3.mono (by omega))).trans (b4.mono (by have := b3.size; omega))
              have hz4 : w.heap.size + 2 ≤ w4.heap.size := Nat.le_trans hz2 (Nat.le_trans b3.size b4.size)
              clear o4 i2 s2 hP2 hB2 hz2 b3 b4 o3
              go_wp2_with fail
              refine (same_eq _ _ _ _ R w4 (by have := hR'.out; omega) i2' i4).mono ?_; rintro e w5 ⟨rfl, b5⟩
              have s5 := s4.below b5 (by omega)
              have hP5 := (b5.block _ (by omega)).trans hP4
              have hB5 := hB4.trans (b5.mono (by omega))
              have hz5 : w.heap.size + 2 ≤ w5.heap.size := Nat.le_trans hz4 b5.size
              clear s4 hP4 hB4 hz4 b5 i2' i4
              go_wp2_with fail
              refine (held_any _ _ _ _ w5 s5).mono ?_; rintro e w6 ⟨rfl, he⟩
              obtain rfl := he.symm
              go_wp2_with fail
              refine (end_any _ _ _ _ w5 s5 (by omega) (by omega) (by omega)).mono ?_; rintro e w6 ⟨v6, rfl, o6, s6, b6⟩
              obtain rfl : v6 = .slice none 0 0 := o6.2.2 rfl
              have hP6 := (b6.2.2.2.2 (w.heap.size + 1) (by omega) (by omega)).trans hP5
              have hB6 := hB5.trans (b6.below (B' := w.heap.size) (by omega) (by omega))
              have hz6 : w.heap.size + 2 ≤ w6.heap.size := Nat.le_trans hz5 b6.2.2.2.1
              have hXc6 := hXc w6 hP6
              clear s5 hP5 hB5 hz5 b6 o6
              go_wp2_with fail
              go_roundw
              case rel => exact ⟨j + 1, F + X.size, q, by omega, by go_num, by go_num, by omega, s6, hP6, hz6, hB6⟩
              case measure => simp [intOf]; omega
            · skip
              go_wp2_with fail
              refine (moved_any _ _ F N w3 (by omega) (by omega) (fun x hx => by have := hnf x hx; omega) hi).mono ?_; rintro e w4 ⟨v4, rfl, o4, b4⟩
              rw [HE2.out] at o4
              obtain ⟨a4, c4, rfl, i4, l4⟩ := o4.its
              have i2' := (i2.below b3).below b4
              have s4 := (s2.below b3 (by omega)).below b4 (by have := b3.size; omega)
              have hP4 := (b4.block _ (by have := b3.size; omega)).trans ((b3.block _ (by omega)).trans hP2)
              have hB4 := (hB2.trans (b3.mono (by omega))).trans (b4.mono (by have := b3.size; omega))
              have hz4 : w.heap.size + 2 ≤ w4.heap.size := Nat.le_trans hz2 (Nat.le_trans b3.size b4.size)
              clear o4 i2 s2 hP2 hB2 hz2 b3 b4 o3
              go_wp2_with fail
              refine (same_eq _ _ _ _ R w4 (by have := hR'.out; omega) i2' i4).mono ?_; rintro e w5 ⟨rfl, b5⟩
              have s5 := s4.below b5 (by omega)
              have hP5 := (b5.block _ (by omega)).trans hP4
              have hB5 := hB4.trans (b5.mono (by omega))
              have hz5 : w.heap.size + 2 ≤ w5.heap.size := Nat.le_trans hz4 b5.size
              clear s4 hP4 hB4 hz4 b5 i2' i4
              go_wp2_with fail
              refine (held_any _ _ _ _ w5 s5).mono ?_; rintro e w6 ⟨rfl, he⟩
              obtain rfl := he.symm
              go_wp2_with fail
              refine (end_any _ _ _ _ w5 s5 (by omega) (by omega) (by omega)).mono ?_; rintro e w6 ⟨v6, rfl, o6, s6, b6⟩
              obtain rfl : v6 = .slice none 0 0 := o6.2.2 rfl
              have hP6 := (b6.2.2.2.2 (w.heap.size + 1) (by omega) (by omega)).trans hP5
              have hB6 := hB5.trans (b6.below (B' := w.heap.size) (by omega) (by omega))
              have hz6 : w.heap.size + 2 ≤ w6.heap.size := Nat.le_trans hz5 b6.2.2.2.1
              have hXc6 := hXc w6 hP6
              clear s5 hP5 hB5 hz5 b6 o6
              go_wp2_with fail
              go_roundw
              case rel => exact ⟨j + 1, F + X.size, q, by omega, by go_num, by go_num, by omega, s6, hP6, hz6, hB6⟩
              case measure => simp [intOf]; omega
    · obtain rfl : j = 2 := by omega
      go_wp2_with fail
      refine (known_any _).mono ?_; rintro e w9 ⟨rfl, hb9⟩
      go_wp2_with fail
      go_ret
      exact ⟨rfl, hB.trans (hb9.mono hB.size)⟩
end Go.Proofs.Ythlcdaopldnocaa
