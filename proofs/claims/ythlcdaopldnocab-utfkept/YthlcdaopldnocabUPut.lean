/- utf.Scanner's Put: its contract. -/
import Derived.Test.YthlcdaopldnocabUHeld
import Derived.Test.YthlcdaopldnocabUList
import Derived.Test.YthlcdaopldnocabURegion
import Derived.Lib.BufferWrite
namespace Go.Proofs.Ythlcdaopldnocab
open Go.RowKit Go.Sort
open Go.Joins
/-- The scanner's block: four bytes, how many are held, how many were put. -/
def scCells (q : List UInt8) (wait n : Nat) : List Value := cellsOf q ++ [.int .i64 (wait : Nat), .int .i64 (n : Nat)]
def SC (W : World) (b : Nat) (q : List UInt8) (wait n : Nat) : Prop := q.length = 4 ∧ W.heap[b]? = some (.cells (scCells q wait n).toArray 50 (0, 0))
theorem scCells_length (q : List UInt8) (wait n : Nat) : (scCells q wait n).length = q.length + 2 := by simp [scCells, cellsOf]
theorem SC.byte {W : World} {b : Nat} {q : List UInt8} {wait n : Nat} (h : SC W b q wait n) (j : Nat) (hj : j < 4) : W.cell? ⟨b, j, none⟩ = some (.int .u8 ((q.getD j 0).toNat : Int)) := by
  have hq : j < q.length := by rw [h.1]; exact hj
  rw [cell_of_block h.2]
  simp [scCells, List.getElem?_append_left (show j < (cellsOf q).length by rw [cellsOf_length]; exact hq), cellsOf_get q j hq]
theorem SC.wait {W : World} {b : Nat} {q : List UInt8} {wait n : Nat} (h : SC W b q wait n) : W.cell? ⟨b, 4, none⟩ = some (.int .i64 (wait : Nat)) := by
  rw [cell_of_block h.2]
  have : (cellsOf q).length = 4 := by rw [cellsOf_length]; exact h.1
  simp [scCells, this]
theorem SC.count {W : World} {b : Nat} {q : List UInt8} {wait n : Nat} (h : SC W b q wait n) : W.cell? ⟨b, 5, none⟩ = some (.int .i64 (n : Nat)) := by
  rw [cell_of_block h.2]
  have : (cellsOf q).length = 4 := by rw [cellsOf_length]; exact h.1
  simp [scCells, this]
theorem SC.free {W : World} {b : Nat} {q : List UInt8} {wait n : Nat} (h : SC W b q wait n) (j : Nat) : W.frozen? ⟨b, j, none⟩ = false := unfrozen_of_block h.2 j
theorem SC.below {W W' : World} {b B : Nat} {q : List UInt8} {wait n : Nat} (h : SC W b q wait n) (hb : Below B W W') (hB : b < B) : SC W' b q wait n := ⟨h.1, (hb.block b hB).trans h.2⟩
theorem SC.lt {W : World} {b : Nat} {q : List UInt8} {wait n : Nat} (h : SC W b q wait n) : b < W.heap.size := (Array.getElem?_eq_some_iff.1 h.2).1
theorem SC.setByte {W : World} {b : Nat} {q : List UInt8} {wait n : Nat} (h : SC W b q wait n) (j : Nat) (hj : j < 4) (c : UInt8) : SC (W.setCell ⟨b, j, none⟩ (.int .u8 (c.toNat : Int))) b (q.set j c) wait n := by
  refine ⟨by simp [h.1], ?_⟩
  have := block_setCell h.2 (i := j) (.int .u8 (c.toNat : Int))
  rw [this]
  congr 2
  simp only [scCells, List.setIfInBounds_toArray]
  rw [List.set_append_left _ _ (by rw [cellsOf_length, h.1]; exact hj), cellsOf_set]
theorem SC.setWait {W : World} {b : Nat} {q : List UInt8} {wait n : Nat} (h : SC W b q wait n) (m : Nat) : SC (W.setCell ⟨b, 4, none⟩ (.int .i64 (m : Nat))) b q m n := by
  refine ⟨h.1, ?_⟩
  have := block_setCell h.2 (i := 4) (.int .i64 (m : Nat))
  rw [this]
  congr 2
  have hl : (cellsOf q).length = 4 := by rw [cellsOf_length]; exact h.1
  simp only [scCells, List.setIfInBounds_toArray]
  rw [List.set_append_right _ _ (by omega), hl]
  rfl
theorem SC.setCount {W : World} {b : Nat} {q : List UInt8} {wait n : Nat} (h : SC W b q wait n) (m : Nat) : SC (W.setCell ⟨b, 5, none⟩ (.int .i64 (m : Nat))) b q wait m := by
  refine ⟨h.1, ?_⟩
  have := block_setCell h.2 (i := 5) (.int .i64 (m : Nat))
  rw [this]
  congr 2
  have hl : (cellsOf q).length = 4 := by rw [cellsOf_length]; exact h.1
  simp only [scCells, List.setIfInBounds_toArray]
  rw [List.set_append_right _ _ (by omega), hl]
  rfl
/-- Whatever lay below B lies as it lay, but for block b. -/
def But (b B : Nat) (W W' : World) : Prop := W'.os = W.os ∧ W'.tape = W.tape ∧ W'.output = W.output ∧ W.heap.size ≤ W'.heap.size ∧ ∀ k, k < B → k ≠ b → W'.heap[k]? = W.heap[k]?
theorem But.refl (b B : Nat) (W : World) : But b B W W := ⟨rfl, rfl, rfl, Nat.le_refl _, fun _ _ _ => rfl⟩
theorem But.of_below {b B : Nat} {W W' : World} (h : Below B W W') : But b B W W' := ⟨h.os, h.tape, h.output, h.size, fun k hk _ => h.block k hk⟩
theorem But.trans {b B : Nat} {X Y Z : World} (h : But b B X Y) (k : But b B Y Z) : But b B X Z := ⟨k.1.trans h.1, k.2.1.trans h.2.1, k.2.2.1.trans h.2.2.1, Nat.le_trans h.2.2.2.1 k.2.2.2.1, fun i hi hb => (k.2.2.2.2 i hi hb).trans (h.2.2.2.2 i hi hb)⟩
theorem But.setCell {b B : Nat} {W W' : World} (h : But b B W W') (j : Nat) (v : Value) : But b B W (W'.setCell ⟨b, j, none⟩ v) := ⟨h.1, h.2.1, h.2.2.1, by simpa using h.2.2.2.1, fun k hk hb => (Below.heap_setCell _ _ _ k hb).trans (h.2.2.2.2 k hk hb)⟩
theorem But.below {b B B' : Nat} {W W' : World} (h : But b B W W') (hB : B' ≤ B) (hb : B' ≤ b) : Below B' W W' := ⟨h.1, h.2.1, h.2.2.1, h.2.2.2.1, fun k hk => h.2.2.2.2 k (by omega) (by omega)⟩
theorem OwnI.but {T : TypeId} {W W' : World} {base b : Nat} {v : Value} {l : List It} (h : OwnI T W base v l) (hb : But b W.heap.size W W') (hB : b < base) : OwnI T W' base v l := by
  refine ⟨⟨h.1.1, ?_⟩, h.2⟩
  rcases h.1.2 with h0 | ⟨g, cap, cur, hv, hg, hh, r⟩
  · exact .inl h0
  · refine .inr ⟨g, cap, cur, hv, hg, ?_, r⟩
    rw [hb.2.2.2.2 g (Array.getElem?_eq_some_iff.1 hh).1 (by omega)]
    exact hh
theorem byteCells_cells (l : List UInt8) : Go.Lib.byteCells l = cellsOf l := rfl
/-- A text is copied over the scanner's bytes. -/
theorem copy_sc (W : World) (b : Nat) (q : List UInt8) (wait n : Nat) (t : ByteArray) (h : SC W b q wait n) (ht : t.size ≤ 4) :
    ∃ W', (Builtin.copy_ #[24, 9] 3 #[.slice (some ⟨b, 0, none⟩) 4 4, .string t]).run Try.prog W = .ok (.int .i64 (t.size : Nat)) W' ∧ SC W' b (tl t ++ q.drop t.size) wait n ∧ But b W.heap.size W W' := by
  have hl : (scCells q wait n).length = 6 := by rw [scCells_length, h.1]
  have hr := Go.Lib.run_copy_row_string (P := Try.prog) W 24 9 3 5 b 0 4 4 t (scCells q wait n).toArray 50 Try.underlying24 size5 h.2 ht (by rw [List.size_toArray, hl]; omega)
  refine ⟨_, hr, ⟨by simp [h.1]; omega, ?_⟩, ?_⟩
  · have := setRow_heap W b (scCells q wait n).toArray ((scCells q wait n).toArray.toList.take 0 ++ Go.Lib.byteCells t.data.toList ++ (scCells q wait n).toArray.toList.drop (0 + t.size)).toArray 50 (0, 0) h.2
    rw [this]
    congr 2
    have e : t.data.toList = tl t := rfl
    rw [byteCells_cells, e]
    simp only [List.take_zero, List.nil_append, Nat.zero_add, scCells]
    rw [cellsOf_append, List.append_assoc, List.drop_append_of_le_length (by rw [cellsOf_length, h.1]; exact ht)]
    congr 2
    simp [cellsOf, List.map_drop]
  · exact ⟨rfl, rfl, rfl, by simp, fun k _ hk => setRow_other W b k _ hk⟩
/-- What Put's run ends with. -/
abbrev PQ (w : World) (b n : Nat) (R : List It) (H : List UInt8) : Exit → Act → World → Prop := bodyPost Try.prog Try.f11 fun e w' => ∃ v, e = .returned v ∧ OwnI 29 w' w.heap.size v R ∧ (∃ q, q.take H.length = H ∧ SC w' b q H.length n) ∧ But b w.heap.size w w'
abbrev POn (w : World) (b n : Nat) (R : List It) (H : List UInt8) (l : Nat) (a : Act) (wr : World) : Prop := On Try.prog (scopeIn Try.f11) (PQ w b n R H) l a wr
/-- What stands at the label 'look'. -/
def LookAt (w : World) (b n : Nat) (R : List It) (H : List UInt8) (t : ByteArray) (v : Value) (wr : World) : Prop :=
  t.size ≤ 4 ∧ t.size ≤ n ∧ n ≤ 9223372036854775807 ∧ b < w.heap.size ∧ (∃ q wait, SC wr b q wait n) ∧ But b w.heap.size w wr ∧ heldL (tl t) = H ∧ ∃ out, OwnI 29 wr w.heap.size v out ∧ out.length + t.size ≤ 4 ∧ R = out ++ compI (n - t.size) (tl t)
def restOf (c : Code) (l : Nat) : Code := match findLabel c l with
  | some (.seq _ c) => c
  | _ => .skip
set_option maxRecDepth 100000 in
set_option maxHeartbeats 4000000 in
theorem look_core (w : World) (b n : Nat) (R : List It) (H : List UInt8) (m : Nat)
    (ih : ∀ (t : ByteArray) (v : Value) (wr : World) (t1 t2 t3 t4 t7 t8 t9 t10 t11 t12 t13 t14 t15 t16 t17 t18 t19 t20 t21 t22 t23 t24 t25 t26 t27 t28 t29 t30 t31 t32 t33 t34 t35 t36 t37 t38 t39 t40 t41 t42 t43 t44 t45 t46 t47 t48 t49 t50 t51 t52 t53 t54 t55 t56 t57 t58 t59 t60 t61 t62 t63 t64 t65 t66 t67 t68 t69 t70 t71 t72 t73 t74 t75 t76 t77 t78 t79 t80 t81 t82 t83 t84 : Value), t.size < m → LookAt w b n R H t v wr → POn w b n R H 0 ⟨#[.pointer (some ⟨b, 0, none⟩), t1, t2, t3, t4, .string t, v, t7, t8, t9, t10, t11, t12, t13, t14, t15, t16, t17, t18, t19, t20, t21, t22, t23, t24, t25, t26, t27, t28, t29, t30, t31, t32, t33, t34, t35, t36, t37, t38, t39, t40, t41, t42, t43, t44, t45, t46, t47, t48, t49, t50, t51, t52, t53, t54, t55, t56, t57, t58, t59, t60, t61, t62, t63, t64, t65, t66, t67, t68, t69, t70, t71, t72, t73, t74, t75, t76, t77, t78, t79, t80, t81, t82, t83, t84], []⟩ wr)
    (t : ByteArray) (v : Value) (wr : World) (t1 t2 t3 t4 t7 t8 t9 t10 t11 t12 t13 t14 t15 t16 t17 t18 t19 t20 t21 t22 t23 t24 t25 t26 t27 t28 t29 t30 t31 t32 t33 t34 t35 t36 t37 t38 t39 t40 t41 t42 t43 t44 t45 t46 t47 t48 t49 t50 t51 t52 t53 t54 t55 t56 t57 t58 t59 t60 t61 t62 t63 t64 t65 t66 t67 t68 t69 t70 t71 t72 t73 t74 t75 t76 t77 t78 t79 t80 t81 t82 t83 t84 : Value) (ht : t.size = m) (h : LookAt w b n R H t v wr) :
    (restOf (scopeIn Try.f11) 0).wp Try.prog (viaL (POn w b n R H) (PQ w b n R H)) ⟨#[.pointer (some ⟨b, 0, none⟩), t1, t2, t3, t4, .string t, v, t7, t8, t9, t10, t11, t12, t13, t14, t15, t16, t17, t18, t19, t20, t21, t22, t23, t24, t25, t26, t27, t28, t29, t30, t31, t32, t33, t34, t35, t36, t37, t38, t39, t40, t41, t42, t43, t44, t45, t46, t47, t48, t49, t50, t51, t52, t53, t54, t55, t56, t57, t58, t59, t60, t61, t62, t63, t64, t65, t66, t67, t68, t69, t70, t71, t72, t73, t74, t75, t76, t77, t78, t79, t80, t81, t82, t83, t84], []⟩ wr := by
  subst ht
  obtain ⟨h4, hn, hn2, hb, ⟨q, wait, hsc⟩, hbut, hH, out, ho, hol, hR⟩ := h
  obtain ⟨i0, hi, hz0, hz1, hz2⟩ := info_parts info29
  have hF := front_any t
  have hfs : t.size ≤ 9223372036854775807 := by omega
  have hle := front_le (tl t)
  rw [tl_len] at hle
  obtain ⟨k, bb, hfr⟩ : ∃ k bb, front (tl t) = (k, bb) := ⟨_, _, rfl⟩
  rw [hfr] at hF hle
  obtain ⟨hle1, hle2, hle3, hle4⟩ := hle
  simp only at hle1 hle2 hle3 hle4
  have cn := hsc.count
  change Code.wp _ (Code.seq _ _) _ _ _
  cases bb with
  | true =>
    have h1 := hle3 rfl
    have hne : tl t ≠ [] := fun e => by rw [e] at hfr; cases hfr
    have hnh : ¬ isHeld (tl t) = true := fun e => by rw [(isHeld_iff _).1 e] at hfr; cases hfr
    have hwid : wid (tl t) = k := by unfold wid; rw [hfr]; rfl
    rw [heldL_step _ hne hnh, hwid] at hH
    rw [compI_step _ _ hne hnh, hwid] at hR
    unfold headIt at hR
    rw [hfr, if_pos rfl] at hR
    have hdw := decode_whole t 0 k (by rw [List.drop_zero, hfr]) (by rw [List.drop_zero, hfr])
    rw [List.drop_zero, Nat.zero_add] at hdw
    have HR : Hid (R = (out ++ [⟨n - t.size, k, rn (tl t), false⟩]) ++ compI (n - t.size + k) ((tl t).drop k)) := by rw [List.append_assoc]; exact hR
    have HH : Hid (heldL ((tl t).drop k) = H) := hH
    have HD : Hid (Utf8.decode (t.extract 0 k) 0 = (rn (tl t), k)) := hdw
    have hse : (t.extract 0 k).size = k := by simp; omega
    have HSE : Hid ((t.extract 0 k).size = k) := hse
    clear hR hH hdw hfr hne hnh hwid hle3 hle4 hse
    generalize rn (tl t) = r at *
    go_wp2_with (first
      | (apply wp_goto; change On _ _ _ _ _ _; refine on_label rfl ?_)
      | (apply wp_label)
      | (go_at_call 15; refine (hF _ hfs).mono ?_; rintro e w2 ⟨rfl, he⟩; obtain rfl := he.symm))
    obtain ⟨p, hp⟩ : ∃ p, p = n - t.size := ⟨_, rfl⟩
    have HPI : Hid (((p : Nat) : Int) = (n : Int) - t.size) := by show ((p : Nat) : Int) = (n : Int) - t.size; omega
    have HS : ∀ wx, Calls Try.prog 20 #[.string (t.extract 0 k), .int .i64 ((n : Int) - t.size)] wx fun e w' => e = .returned (itv ⟨p, k, r, false⟩) ∧ Below wx.heap.size wx w' := fun wx => by
      have := sequence_any (t.extract 0 k) p (by rw [HSE.out]; omega) (by rw [HSE.out]; omega) wx
      rw [HSE.out, HD.out, HPI.out] at this
      exact this
    rw [← hp] at HR
    clear hp
    have kn := cell_regrown (w := wr) cn
    clear HSE HD
    refine wp_region_move_tail (C := fun w' => ∃ p : Regrown, w' = grow (redrawn wr p.d) p.os) 12 (.tmp 6) rfl rfl (by kernel_rfl) (by kernel_rfl) ⟨⟨_, #[]⟩, by rw [grow_empty]; rfl⟩ (fun _ _ _ _ h => h) ?_
    simp only [Nat.reduceSub, List.take_succ_cons, List.take_zero, List.drop_succ_cons, List.drop_zero]
    go_simp
    repeat (go_big_quiet_step (fail))
    refine wpQuiet_step (fun K hK => ?_)
    go_simp
    apply Exists.intro
    refine ⟨fun _ => ?_, hK _ ?_⟩
    · exact Calls.regrown_of (HS _)
    clear hK K
    refine wpQuiet_nil ?_
    intro p5
    clear kn
    have hb5 := below_regrown wr p5.d p5.os
    generalize grow (redrawn wr p5.d) p5.os = W5 at *
    have hwr := hbut.2.2.2.1
    obtain ⟨v', w1, hr1, ho1, ht1⟩ := run_own_it 25 29 i0 _ Try.underlying25 hi hz0 hz1 hz2 rfl (W5.alloc (.cells (cellI ⟨p, k, r, false⟩).toArray 29)) w.heap.size v out ⟨p, k, r, false⟩ W5.heap.size 1 ((ho.below hb5 (Nat.le_refl _)).below ((Below.refl W5.heap.size W5).alloc (Nat.le_refl _) _) (Nat.le_refl _)) (World.alloc_heap_new W5 _) (by have := hb5.size; simp; omega) (by omega)
    have hb1 : Below w.heap.size wr w1 := ((hb5.mono hwr).alloc (Nat.le_trans hwr hb5.size) _).trans (ht1.below (by have := hb5.size; simp; omega))
    unfold cellI at hr1
    unfold itv
    dsimp only
    have HL : LookAt w b n R H (t.extract k t.size) v' w1 := by
      refine ⟨by simp; omega, by simp; omega, hn2, hb, ⟨q, wait, hsc.below hb1 hb⟩, hbut.trans (But.of_below hb1), by rw [tl_rest]; exact HH.out, _, ho1, by simp; omega, ?_⟩
      have e := HPI.out
      rw [HR.out, tl_rest, show n - (t.extract k t.size).size = p + k by simp; omega]
    clear ho ht1 hb5
    refine wpList_plain rfl fun K hK => ?_
    go_simp
    refine hK _ _ ?_
    clear hK K
    refine wpList_append_run rfl (.tmp 58) (.tmp 70) 25 25 rfl _ _ rfl rfl v' w1 hr1 ?_
    go_simp
    go_wp2_with (first
      | (apply wp_goto; change On _ _ _ _ _ _; refine ih (t.extract k t.size) v' w1 _ _ _ _ _ _ _ _ _ _ _ _ _ _ _ _ _ _ _ _ _ _ _ _ _ _ _ _ _ _ _ _ _ _ _ _ _ _ _ _ _ _ _ _ _ _ _ _ _ _ _ _ _ _ _ _ _ _ _ _ _ _ _ _ _ _ _ _ _ _ _ _ _ _ _ _ _ _ _ _ _ _ (by simp; omega) HL))
  | false =>
    by_cases hd : k = t.size
    · have hih : isHeld (tl t) = true := (isHeld_iff _).2 (by rw [hfr, hd, tl_len])
      rw [heldL_held _ hih] at hH
      rw [compI_held _ _ hih, List.append_nil] at hR
      subst hd
      have hd' : ((t.size : Int) == (t.size : Int)) = true := by simp
      obtain ⟨W6, hcp, hs6, hb6⟩ := copy_sc wr b q wait n t hsc h4
      have c4 := hs6.wait
      have f4 := hs6.free 4
      clear hfr hih hle3 hle4 cn
      go_wp2_with (first
        | (apply wp_goto; change On _ _ _ _ _ _; refine on_label rfl ?_)
        | (apply wp_label)
        | (go_at_call 15; refine (hF _ hfs).mono ?_; rintro e w2 ⟨rfl, he⟩; obtain rfl := he.symm))
      rw [viaL_ret]
      go_ret
      have hHl : H.length = t.size := by rw [← hH, tl_len]
      have hwr := hbut.2.2.2.1
      have hs7 := hs6.setWait t.size
      refine ⟨v, rfl, ?_, ?_, (hbut.trans ⟨hb6.1, hb6.2.1, hb6.2.2.1, hb6.2.2.2.1, fun k hk hkb => hb6.2.2.2.2 k (by omega) hkb⟩).setCell _ _⟩
      · rw [hR]
        exact (ho.but hb6 hb).but ((But.refl b W6.heap.size W6).setCell _ _) hb
      · rw [hHl]
        refine ⟨tl t ++ q.drop t.size, ?_, hs7⟩
        rw [← hH, List.take_left' (tl_len t)]
    · have hd' : ((k : Int) == (t.size : Int)) = false := by simp; omega
      have hne : tl t ≠ [] := fun e => by
        have h0 := tl_len t
        rw [e] at h0 hfr
        rw [front_nil] at hfr
        simp at h0
        cases hfr
        omega
      have hih : ¬ isHeld (tl t) = true := fun e => by
        have := (isHeld_iff _).1 e
        rw [hfr, tl_len] at this
        cases this
        exact hd rfl
      have hwid : wid (tl t) = 1 := by unfold wid; rw [hfr]; rfl
      rw [heldL_step _ hne hih, hwid] at hH
      rw [compI_step _ _ hne hih, hwid] at hR
      unfold headIt at hR
      rw [hfr, if_neg (by simp)] at hR
      have hts : 0 < t.size := by
        have := List.length_pos_iff.2 hne
        rw [tl_len] at this
        exact this
      have HR : Hid (R = (out ++ [⟨n - t.size, 1, 65533, true⟩]) ++ compI (n - t.size + 1) ((tl t).drop 1)) := by rw [List.append_assoc]; exact hR
      have HH : Hid (heldL ((tl t).drop 1) = H) := hH
      clear hR hH hfr hne hih hwid hle3 hle4 hd
      obtain ⟨p, hp⟩ : ∃ p, p = n - t.size := ⟨_, rfl⟩
      have HPI : Hid (((p : Nat) : Int) = (n : Int) - t.size) := by show ((p : Nat) : Int) = (n : Int) - t.size; omega
      have HS : ∀ wx, Calls Try.prog 19 #[.int .i64 ((n : Int) - t.size)] wx fun e w' => e = .returned (itv ⟨p, 1, 65533, true⟩) ∧ Below wx.heap.size wx w' := fun wx => by
        have := badByte_any p wx
        rw [HPI.out] at this
        exact this
      rw [← hp] at HR
      clear hp
      go_wp2_with (first
        | (apply wp_goto; change On _ _ _ _ _ _; refine on_label rfl ?_)
        | (apply wp_label)
        | (go_at_call 15; refine (hF _ hfs).mono ?_; rintro e w2 ⟨rfl, he⟩; obtain rfl := he.symm))
      refine (HS _).mono ?_
      rintro e W5 ⟨rfl, hb5⟩
      have hwr := hbut.2.2.2.1
      obtain ⟨v', w1, hr1, ho1, ht1⟩ := run_own_it 25 29 i0 _ Try.underlying25 hi hz0 hz1 hz2 rfl (W5.alloc (.cells (cellI ⟨p, 1, 65533, true⟩).toArray 29)) w.heap.size v out ⟨p, 1, 65533, true⟩ W5.heap.size 1 ((ho.below hb5 (Nat.le_refl _)).below ((Below.refl W5.heap.size W5).alloc (Nat.le_refl _) _) (Nat.le_refl _)) (World.alloc_heap_new W5 _) (by have := hb5.size; simp; omega) (by omega)
      have hb1 : Below w.heap.size wr w1 := ((hb5.mono hwr).alloc (Nat.le_trans hwr hb5.size) _).trans (ht1.below (by have := hb5.size; simp; omega))
      unfold cellI at hr1
      unfold itv
      dsimp only
      have HL : LookAt w b n R H (t.extract 1 t.size) v' w1 := by
        refine ⟨by simp; omega, by simp; omega, hn2, hb, ⟨q, wait, hsc.below hb1 hb⟩, hbut.trans (But.of_below hb1), by rw [tl_rest]; exact HH.out, _, ho1, by simp; omega, ?_⟩
        have e := HPI.out
        rw [HR.out, tl_rest, show n - (t.extract 1 t.size).size = p + 1 by simp; omega]
      clear ho ht1 hb5
      go_wp2_with (first
        | (apply wp_goto; change On _ _ _ _ _ _; refine ih (t.extract 1 t.size) v' w1 _ _ _ _ _ _ _ _ _ _ _ _ _ _ _ _ _ _ _ _ _ _ _ _ _ _ _ _ _ _ _ _ _ _ _ _ _ _ _ _ _ _ _ _ _ _ _ _ _ _ _ _ _ _ _ _ _ _ _ _ _ _ _ _ _ _ _ _ _ _ _ _ _ _ _ _ _ _ _ _ _ _ (by simp; omega) HL)
        | (at_builtin; refine wpList_append_run rfl (.tmp 45) (.tmp 54) 25 25 rfl _ _ rfl rfl v' w1 hr1 ?_))
theorem at_look (w : World) (b n : Nat) (R : List It) (H : List UInt8) (m : Nat) :
    ∀ (t : ByteArray) (v : Value) (wr : World) (t1 t2 t3 t4 t7 t8 t9 t10 t11 t12 t13 t14 t15 t16 t17 t18 t19 t20 t21 t22 t23 t24 t25 t26 t27 t28 t29 t30 t31 t32 t33 t34 t35 t36 t37 t38 t39 t40 t41 t42 t43 t44 t45 t46 t47 t48 t49 t50 t51 t52 t53 t54 t55 t56 t57 t58 t59 t60 t61 t62 t63 t64 t65 t66 t67 t68 t69 t70 t71 t72 t73 t74 t75 t76 t77 t78 t79 t80 t81 t82 t83 t84 : Value), t.size = m → LookAt w b n R H t v wr → POn w b n R H 0 ⟨#[.pointer (some ⟨b, 0, none⟩), t1, t2, t3, t4, .string t, v, t7, t8, t9, t10, t11, t12, t13, t14, t15, t16, t17, t18, t19, t20, t21, t22, t23, t24, t25, t26, t27, t28, t29, t30, t31, t32, t33, t34, t35, t36, t37, t38, t39, t40, t41, t42, t43, t44, t45, t46, t47, t48, t49, t50, t51, t52, t53, t54, t55, t56, t57, t58, t59, t60, t61, t62, t63, t64, t65, t66, t67, t68, t69, t70, t71, t72, t73, t74, t75, t76, t77, t78, t79, t80, t81, t82, t83, t84], []⟩ wr := by
  induction m using Nat.strongRecOn with
  | _ m ih =>
    intro t v wr t1 t2 t3 t4 t7 t8 t9 t10 t11 t12 t13 t14 t15 t16 t17 t18 t19 t20 t21 t22 t23 t24 t25 t26 t27 t28 t29 t30 t31 t32 t33 t34 t35 t36 t37 t38 t39 t40 t41 t42 t43 t44 t45 t46 t47 t48 t49 t50 t51 t52 t53 t54 t55 t56 t57 t58 t59 t60 t61 t62 t63 t64 t65 t66 t67 t68 t69 t70 t71 t72 t73 t74 t75 t76 t77 t78 t79 t80 t81 t82 t83 t84 ht h
    refine on_label (rest := .seq .skip (restOf (scopeIn Try.f11) 0)) rfl (wp_seq (wp_skip (show Exit.then _ _ .normal _ _ from look_core w b n R H m (fun t' v' wr' p1 p2 p3 p4 p7 p8 p9 p10 p11 p12 p13 p14 p15 p16 p17 p18 p19 p20 p21 p22 p23 p24 p25 p26 p27 p28 p29 p30 p31 p32 p33 p34 p35 p36 p37 p38 p39 p40 p41 p42 p43 p44 p45 p46 p47 p48 p49 p50 p51 p52 p53 p54 p55 p56 p57 p58 p59 p60 p61 p62 p63 p64 p65 p66 p67 p68 p69 p70 p71 p72 p73 p74 p75 p76 p77 p78 p79 p80 p81 p82 p83 p84 hlt h' => ?_) t v wr t1 t2 t3 t4 t7 t8 t9 t10 t11 t12 t13 t14 t15 t16 t17 t18 t19 t20 t21 t22 t23 t24 t25 t26 t27 t28 t29 t30 t31 t32 t33 t34 t35 t36 t37 t38 t39 t40 t41 t42 t43 t44 t45 t46 t47 t48 t49 t50 t51 t52 t53 t54 t55 t56 t57 t58 t59 t60 t61 t62 t63 t64 t65 t66 t67 t68 t69 t70 t71 t72 t73 t74 t75 t76 t77 t78 t79 t80 t81 t82 t83 t84 ht h)))
    exact ih t'.size hlt t' v' wr' p1 p2 p3 p4 p7 p8 p9 p10 p11 p12 p13 p14 p15 p16 p17 p18 p19 p20 p21 p22 p23 p24 p25 p26 p27 p28 p29 p30 p31 p32 p33 p34 p35 p36 p37 p38 p39 p40 p41 p42 p43 p44 p45 p46 p47 p48 p49 p50 p51 p52 p53 p54 p55 p56 p57 p58 p59 p60 p61 p62 p63 p64 p65 p66 p67 p68 p69 p70 p71 p72 p73 p74 p75 p76 p77 p78 p79 p80 p81 p82 p83 p84 rfl h'
theorem take_set (q h : List UInt8) (c : UInt8) (hq : q.take h.length = h) (hl : h.length < q.length) : (q.set h.length c).take (h.length + 1) = h ++ [c] := by
  rw [List.take_add_one, List.take_set_of_le (Nat.le_refl _), hq]
  simp [hl]
theorem sc_text (W : World) (b : Nat) (q h : List UInt8) (wait n : Nat) (hs : SC W b q wait n) (hl : h.length ≤ 4) (hq : q.take h.length = h) :
    (convert 24 9 (.slice (some ⟨b, 0, none⟩) h.length 4)).run Try.prog W = .ok (.string (textOf h)) W := by
  refine text_bytes (P := Try.prog) 24 5 9 Try.underlying24 Try.underlying5 Try.underlying9 b 0 4 h W (fun j hj => ?_)
  rw [Nat.zero_add, hs.byte j (by omega)]
  have : (q.take h.length).getD j 0 = q.getD j 0 := by simp [List.getD, hj]
  rw [← this, hq]
theorem slice_held (W : World) (b k : Nat) (hk : k + 1 ≤ 4) : (Instr.sliceAt 48 (.pointer (some ⟨b, 0, none⟩)) none (some (.int .i64 ((k : Int) + 1))) none).run Try.prog W = .ok (.slice (some ⟨b, 0, none⟩) (k + 1) 4) W := by
  have h := run_sliceAt_array_h (P := Try.prog) W 48 ⟨b, 0, none⟩ (by kernel_rfl) .i64 ((k : Int) + 1) (by omega) (by rw [show Try.prog.arrayLen 48 = 4 from by kernel_rfl]; omega)
  have hz : (sizeOf (Try.prog.elem 48)).run Try.prog W = .ok 1 W := by rfl
  rw [h, hz, show Try.prog.arrayLen 48 = 4 from by kernel_rfl]
  have e : ((k : Int) + 1).toNat = k + 1 := by omega
  simp [Result.andThen, slicedAt, e, Addr.add]
set_option maxRecDepth 100000 in
set_option maxHeartbeats 4000000 in
theorem put_any (b n : Nat) (q h : List UInt8) (c : UInt8) (w : World) (hq : q.take h.length = h) (h3 : h.length ≤ 3) (hn : h.length ≤ n) (hn2 : n < 9223372036854775807) (hsc : SC w b q h.length n) :
    Calls Try.prog 11 #[.pointer (some ⟨b, 0, none⟩), .int .u8 (c.toNat : Int)] w fun e w' => ∃ v, e = .returned v ∧ OwnI 29 w' w.heap.size v (compI (n - h.length) (h ++ [c])) ∧ (∃ q', q'.take (heldL (h ++ [c])).length = heldL (h ++ [c]) ∧ SC w' b q' (heldL (h ++ [c])).length (n + 1)) ∧ But b w.heap.size w w' := by
  have hb := hsc.lt
  have cw := hsc.wait
  have cb := hsc.byte h.length (by omega)
  have fb := hsc.free h.length
  change Calls _ _ _ _ _
  go_enter Try.func11, Try.ntmps11
  change Code.wp Try.prog _ (PQ w b (n + 1) (compI (n - h.length) (h ++ [c])) (heldL (h ++ [c]))) _ _
  go_wp2_with fail
  apply on_enter
  change Code.wp Try.prog _ (viaL (On Try.prog (scopeIn Try.f11) _) _) _ _
  go_wp2_with fail
  refine wp_region_quiet_tail (C := fun w' => ∃ n, w' = w.drewN n) 9 (by kernel_rfl) (by kernel_rfl) ⟨1, rfl⟩ ?_
  simp only [List.take_succ_cons, List.take_zero, List.drop_succ_cons, List.drop_zero]
  repeat (go_big_quiet_step (fail))
  refine wpQuiet_nil ?_
  intro _ hw'
  obtain ⟨nq, hw''⟩ := hw'
  subst hw''
  have hs1 : SC (w.drewN nq) b q h.length n := hsc
  have hs2 := hs1.setByte h.length (by omega) c
  have hs3 := hs2.setCount (n + 1)
  have hbu : But b w.heap.size w (((w.drewN nq).setCell ⟨b, h.length, none⟩ (.int .u8 (c.toNat : Int))).setCell ⟨b, 5, none⟩ (.int .i64 ((n + 1 : Nat) : Int))) := (But.setCell (But.setCell (But.of_below (below_drewN (Below.refl w.heap.size w) nq)) _ _) _ _)
  rw [show ((n + 1 : Nat) : Int) = (n : Int) + 1 from rfl] at hs3 hbu
  have cc := hs2.count
  have fc := hs2.free 5
  go_wp2_with fail
  have hq4 : h.length < q.length := by rw [hsc.1]; omega
  have hq2 := take_set q h c hq hq4
  generalize ((w.drewN nq).setCell ⟨b, h.length, none⟩ (.int .u8 (c.toNat : Int))).setCell ⟨b, 5, none⟩ (.int .i64 ((n : Int) + 1)) = W3 at *
  have hcv : ∀ m, (convert 24 9 (.slice (some ⟨b, 0, none⟩) (h.length + 1) 4)).run Try.prog (W3.drewN m) = .ok (.string (textOf (h ++ [c]))) (W3.drewN m) := fun m => by
    have := sc_text (W3.drewN m) b (q.set h.length c) (h ++ [c]) h.length (n + 1) hs3 (by simp; omega) (by simpa using hq2)
    rw [List.length_append, List.length_singleton] at this
    exact this
  have hsl : ∀ m, (Instr.sliceAt 48 (.pointer (some ⟨b, 0, none⟩)) none (some (.int .i64 ((h.length : Int) + 1))) none).run Try.prog (W3.drewN m) = .ok (.slice (some ⟨b, 0, none⟩) (h.length + 1) 4) (W3.drewN m) := fun m => slice_held _ b _ (by omega)
  have cw3 := hs3.wait
  clear cw cb fb cc fc hs1 hs2
  refine wp_region_quiet_lit (by kernel_rfl) (by kernel_rfl) ?_
  repeat (go_big_quiet_step (fail))
  refine wpQuiet_nil ?_
  intro _ hw'
  obtain ⟨nq2, hw''⟩ := hw'
  subst hw''
  have htl : tl (textOf (h ++ [c])) = h ++ [c] := by simp [tl, textOf]
  have hts : (textOf (h ++ [c])).size = h.length + 1 := by simp [textOf, ByteArray.size]
  have HL : LookAt w b (n + 1) (compI (n - h.length) (h ++ [c])) (heldL (h ++ [c])) (textOf (h ++ [c])) (.slice none 0 0) (W3.drewN nq2) := by
    refine ⟨by omega, by omega, by omega, hb, ⟨_, _, hs3⟩, hbu.trans (But.of_below (below_drewN (Below.refl _ _) nq2)), by rw [htl], [], OwnI.nil _ _ _, by simp; omega, ?_⟩
    rw [htl, hts, List.nil_append, show n + 1 - (h.length + 1) = n - h.length by omega]
  clear hcv cw3 htl hts hq2
  generalize textOf (h ++ [c]) = t at *
  go_wp2_with fail
  apply wp_label
  rename_i K hK
  refine hK _ _ ?_
  exact look_core w b (n + 1) _ _ t.size (fun t' v' wr' p1 p2 p3 p4 p7 p8 p9 p10 p11 p12 p13 p14 p15 p16 p17 p18 p19 p20 p21 p22 p23 p24 p25 p26 p27 p28 p29 p30 p31 p32 p33 p34 p35 p36 p37 p38 p39 p40 p41 p42 p43 p44 p45 p46 p47 p48 p49 p50 p51 p52 p53 p54 p55 p56 p57 p58 p59 p60 p61 p62 p63 p64 p65 p66 p67 p68 p69 p70 p71 p72 p73 p74 p75 p76 p77 p78 p79 p80 p81 p82 p83 p84 _ h' => at_look w b (n + 1) _ _ t'.size t' v' wr' p1 p2 p3 p4 p7 p8 p9 p10 p11 p12 p13 p14 p15 p16 p17 p18 p19 p20 p21 p22 p23 p24 p25 p26 p27 p28 p29 p30 p31 p32 p33 p34 p35 p36 p37 p38 p39 p40 p41 p42 p43 p44 p45 p46 p47 p48 p49 p50 p51 p52 p53 p54 p55 p56 p57 p58 p59 p60 p61 p62 p63 p64 p65 p66 p67 p68 p69 p70 p71 p72 p73 p74 p75 p76 p77 p78 p79 p80 p81 p82 p83 p84 rfl h') t _ _ _ _ _ _ _ _ _ _ _ _ _ _ _ _ _ _ _ _ _ _ _ _ _ _ _ _ _ _ _ _ _ _ _ _ _ _ _ _ _ _ _ _ _ _ _ _ _ _ _ _ _ _ _ _ _ _ _ _ _ _ _ _ _ _ _ _ _ _ _ _ _ _ _ _ _ _ _ _ _ _ _ _ rfl HL
end Go.Proofs.Ythlcdaopldnocab
