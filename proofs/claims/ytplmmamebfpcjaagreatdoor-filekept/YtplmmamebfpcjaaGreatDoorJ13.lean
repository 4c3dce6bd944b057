import Derived.Test.YtplmmamebfpcjaaGreatDoorJ12
section
/- reader.rows, list 4: its contract. -/
namespace Go.Proofs.YtplmmamebfpcjaaGreatDoor
open Go.RowKit Go.Sort Go.Joins
set_option linter.unusedVariables false
set_option maxRecDepth 100000
set_option linter.unusedSimpArgs false
def RI4 (w : World) (g bx B p : Nat) (s : RS) (l : List UInt8) (k : Nat) (wr : World) : Prop :=
  (∃ rows q v pv, manyP (wordP l) k p = .ok (rows, q) ∧ Rx wr g { s with W := v, P := updP s.P 4 pv } (.ok q) ∧ RowW wr B v (rows.map Prod.fst) ∧ RowI wr B pv (rows.map Prod.snd) ∧ BoxR wr bx g ∧ But g B w wr) ∨
  (∃ e s', manyP (wordP l) k p = .error e ∧ RErr wr g s' e ∧ SameF s s' ∧ BoxR wr bx g ∧ But g B w wr)
set_option maxHeartbeats 4000000 in
theorem rows4_any (g bx B p n : Nat) (s : RS) (l : List UInt8) (w : World) (hn : n ≤ 4096) (hbx : BoxR w bx g) (hr : Rx w g s (.ok p)) (hp0 : s.P 4 = .slice none 0 0) (hv0 : s.W = .slice none 0 0) (hF : Fl w s l) (hw : ∃ w0 : World, Below w0.heap.size w0 w ∧ Oc.BS w0 s.a l ∧ w0.heap.size ≤ g) (hB : B ≤ w.heap.size) (hgB : g < B) :
    Calls Tryz.prog 86 #[.pointer (some ⟨g, 0, none⟩), .int .i64 4, .int .i64 (n : Nat), .func (.func 87) #[] #[.pointer (some ⟨bx, 0, none⟩)]] w fun e w' => e = .returned (.tuple #[]) ∧ RI4 w g bx B p s l n w' := by
  have hFn : Hid (s.n = l.length) := hF.n
  have hFle := hF.le
  have hFlim := hF.lim
  have hw' : Hid (∃ w0 : World, Below w0.heap.size w0 w ∧ Oc.BS w0 s.a l ∧ w0.heap.size ≤ g) := hw
  have HFl : Hid (∀ wx, But g B w wx → Oc.BS wx s.a l) := fun wx hwx => by
    obtain ⟨w0, k1, k2, k3⟩ := hw
    exact k2.below (k1.trans (hwx.below (B' := w0.heap.size) (by have := k1.size; omega) k3))
  have hI0 : RI4 w g bx B p s l 0 w := by
    refine .inl ⟨[], p, .slice none 0 0, .slice none 0 0, rfl, ?_, RowW.nil w B, RowI.nil w B, hbx, But.refl _ _ _⟩
    have e : { s with W := .slice none 0 0, P := updP s.P 4 (.slice none 0 0) } = s := by
      obtain ⟨sa, sn, sc, sp, no, sW, sM, sA, sB, sC, sP, sbl⟩ := s
      simp only at hp0 hv0 ⊢
      have : updP sP 4 (.slice none 0 0) = sP := by
        funext i
        unfold updP
        by_cases h : i = 4
        · rw [if_pos h, h, hp0]
        · rw [if_neg h]
      rw [this, hv0]
    rw [e]; exact hr
  have HI0 : Hid (RI4 w g bx B p s l 0 w) := hI0
  clear hI0 hr hbx hF hw hp0 hv0
  skip
  skip
  go_enter Tryz.func86, Tryz.ntmps86
  go_wp2_with fail
  obtain ⟨W0, hW0⟩ : ∃ W0, W0 = w := ⟨_, rfl⟩
  go_loopw [9] (fun i wr => ∃ k : Nat, k ≤ n ∧ i = .int .i64 (k : Nat) ∧ RI4 w g bx B p s l k wr) (fun i _ => n - (intOf i).toNat)
  case atStart => exact ⟨0, Nat.zero_le _, rfl, HI0.out⟩
  case round =>
    obtain ⟨k, hk, rfl, hI⟩ := hrel
    clear HI0
    by_cases hlt : k < n
    · rcases hI with ⟨rows, q, v, pv, hm, hx, hrow, hpl, hbx, hbut⟩ | ⟨e, s', hm, hx, hsf, hbx, hbut⟩
      · have hlen : rows.length = k := manyP_len hm
        have c2 : wr.cell? ⟨g, 2, none⟩ = some (.pointer none) := RB.c2 hx
        have c1 : wr.cell? ⟨g, 1, none⟩ = some (.int .i64 (q : Nat)) := RB.c1 hx
        have cp : wr.cell? ⟨g, 12, none⟩ = some pv := RB.c12 hx
        have hd : Below wr.heap.size wr wr.drew := (Below.refl _ _).drew
        have hBr : B ≤ wr.heap.size := Nat.le_trans hB hbut.size
        have HAPP := appI_step wr wr.drew g B q { s with W := v, P := updP s.P 4 pv } pv (rows.map Prod.snd) (Rx.below hx hd) (hpl.kt (KT.of_below hd)) (But.of_below (hd.mono hBr)) (fun T _ => KT.of_below hd) (Nat.le_trans hBr hd.size) (by simp; omega)
        have hne : bx ≠ g := hbx.ne hx
        have HX : Hid (Rx wr g { s with W := v, P := updP s.P 4 pv } (.ok q)) := hx
        have HROW : Hid (RowW wr B v (rows.map Prod.fst)) := hrow
        have HBX : Hid (BoxR wr bx g) := hbx
        have HBUT : Hid (But g B w wr) := hbut
        skip
        clear hx hrow hpl hbx hbut
        go_wp2_with fail
        refine wp_region_heldtail 16 (fun w' => w'.cell? ⟨g, 12, none⟩ = some pv ∧ w'.cell? ⟨g, 1, none⟩ = some (.int .i64 (q : Nat))) (by kernel_rfl) (by kernel_rfl) ?_
        have hS : (wr.drew.cell? ⟨g, 12, none⟩ = some pv ∧ wr.drew.cell? ⟨g, 1, none⟩ = some (.int .i64 (q : Nat))) := ⟨by simpa using cp, by simpa using c1⟩
        refine HL_take (i := 0) (.pointer (some ⟨g, 0, none⟩)) (by kernel_rfl) rfl (by omega) (by kernel_rfl) (by kernel_rfl) (by kernel_rfl) (fun _ _ _ h => h) (.inl ⟨by kernel_rfl, fun w' hw' => by obtain ⟨u0, u1⟩ := hw'; go_simp⟩) hS ?_
        simp only [Act.put, List.setIfInBounds_toArray, List.set_cons_zero, List.set_cons_succ]
        refine HL_take (i := 1) (.int .i64 4) (by kernel_rfl) rfl (by omega) (by kernel_rfl) (by kernel_rfl) (by kernel_rfl) (fun _ _ _ h => h) (.inl ⟨by kernel_rfl, fun w' hw' => by obtain ⟨u0, u1⟩ := hw'; go_simp⟩) hS ?_
        simp only [Act.put, List.setIfInBounds_toArray, List.set_cons_zero, List.set_cons_succ]
        refine HL_take (i := 2) (.pointer (some ⟨g, 0, none⟩)) (by kernel_rfl) rfl (by omega) (by kernel_rfl) (by kernel_rfl) (by kernel_rfl) (fun _ _ _ h => h) (.inl ⟨by kernel_rfl, fun w' hw' => by obtain ⟨u0, u1⟩ := hw'; go_simp⟩) hS ?_
        simp only [Act.put, List.setIfInBounds_toArray, List.set_cons_zero, List.set_cons_succ]
        refine HL_take (i := 3) (.int .i64 4) (by kernel_rfl) rfl (by omega) (by kernel_rfl) (by kernel_rfl) (by kernel_rfl) (fun _ _ _ h => h) (.inl ⟨by kernel_rfl, fun w' hw' => by obtain ⟨u0, u1⟩ := hw'; go_simp⟩) hS ?_
        simp only [Act.put, List.setIfInBounds_toArray, List.set_cons_zero, List.set_cons_succ]
        refine HL_take (i := 4) (.pointer (some ⟨g, 0, none⟩)) (by kernel_rfl) rfl (by omega) (by kernel_rfl) (by kernel_rfl) (by kernel_rfl) (fun _ _ _ h => h) (.inl ⟨by kernel_rfl, fun w' hw' => by obtain ⟨u0, u1⟩ := hw'; go_simp⟩) hS ?_
        simp only [Act.put, List.setIfInBounds_toArray, List.set_cons_zero, List.set_cons_succ]
        refine HL_take (i := 5) (.pointer (some ⟨g, 8, none⟩)) (by kernel_rfl) rfl (by omega) (by kernel_rfl) (by kernel_rfl) (by kernel_rfl) (fun _ _ _ h => h) (.inl ⟨by kernel_rfl, fun w' hw' => by obtain ⟨u0, u1⟩ := hw'; go_simp⟩) hS ?_
        simp only [Act.put, List.setIfInBounds_toArray, List.set_cons_zero, List.set_cons_succ]
        refine HL_take (i := 6) (.pointer (some ⟨g, 12, none⟩)) (by kernel_rfl) rfl (by omega) (by kernel_rfl) (by kernel_rfl) (by kernel_rfl) (fun _ _ _ h => h) (.inl ⟨by kernel_rfl, fun w' hw' => by obtain ⟨u0, u1⟩ := hw'; go_simp⟩) hS ?_
        simp only [Act.put, List.setIfInBounds_toArray, List.set_cons_zero, List.set_cons_succ]
        refine HL_take (i := 7) (pv) (by kernel_rfl) rfl (by omega) (by kernel_rfl) (by kernel_rfl) (by kernel_rfl) (fun _ _ _ h => h) (.inl ⟨by kernel_rfl, fun w' hw' => by obtain ⟨u0, u1⟩ := hw'; go_simp⟩) hS ?_
        simp only [Act.put, List.setIfInBounds_toArray, List.set_cons_zero, List.set_cons_succ]
        refine HL_take (i := 8) (.pointer (some ⟨g, 0, none⟩)) (by kernel_rfl) rfl (by omega) (by kernel_rfl) (by kernel_rfl) (by kernel_rfl) (fun _ _ _ h => h) (.inl ⟨by kernel_rfl, fun w' hw' => by obtain ⟨u0, u1⟩ := hw'; go_simp⟩) hS ?_
        simp only [Act.put, List.setIfInBounds_toArray, List.set_cons_zero, List.set_cons_succ]
        refine HL_take (i := 9) (.pointer (some ⟨g, 0, none⟩)) (by kernel_rfl) rfl (by omega) (by kernel_rfl) (by kernel_rfl) (by kernel_rfl) (fun _ _ _ h => h) (.inl ⟨by kernel_rfl, fun w' hw' => by obtain ⟨u0, u1⟩ := hw'; go_simp⟩) hS ?_
        simp only [Act.put, List.setIfInBounds_toArray, List.set_cons_zero, List.set_cons_succ]
        refine HL_take (i := 10) (.pointer (some ⟨g, 1, none⟩)) (by kernel_rfl) rfl (by omega) (by kernel_rfl) (by kernel_rfl) (by kernel_rfl) (fun _ _ _ h => h) (.inl ⟨by kernel_rfl, fun w' hw' => by obtain ⟨u0, u1⟩ := hw'; go_simp⟩) hS ?_
        simp only [Act.put, List.setIfInBounds_toArray, List.set_cons_zero, List.set_cons_succ]
        refine HL_take (i := 11) (.int .i64 (q : Nat)) (by kernel_rfl) rfl (by omega) (by kernel_rfl) (by kernel_rfl) (by kernel_rfl) (fun _ _ _ h => h) (.inl ⟨by kernel_rfl, fun w' hw' => by obtain ⟨u0, u1⟩ := hw'; go_simp⟩) hS ?_
        simp only [Act.put, List.setIfInBounds_toArray, List.set_cons_zero, List.set_cons_succ]
        refine HL_take (i := 14) (.pointer (some ⟨g, 0, none⟩)) (by kernel_rfl) rfl (by omega) (by kernel_rfl) (by kernel_rfl) (by kernel_rfl) (fun _ _ _ h => h) (.inl ⟨by kernel_rfl, fun w' hw' => by obtain ⟨u0, u1⟩ := hw'; go_simp⟩) hS ?_
        simp only [Act.put, List.setIfInBounds_toArray, List.set_cons_zero, List.set_cons_succ]
        refine HL_take (i := 15) (.pointer (some ⟨g, 8, none⟩)) (by kernel_rfl) rfl (by omega) (by kernel_rfl) (by kernel_rfl) (by kernel_rfl) (fun _ _ _ h => h) (.inl ⟨by kernel_rfl, fun w' hw' => by obtain ⟨u0, u1⟩ := hw'; go_simp⟩) hS ?_
        simp only [Act.put, List.setIfInBounds_toArray, List.set_cons_zero, List.set_cons_succ]
        refine HL_one (i := 12) rfl (by omega) (by kernel_rfl) rfl ?_
        refine wp_value (v := .slice (some ⟨wr.heap.size, 0, none⟩) 1 1) (w' := wr.drew.alloc (.cells #[.int .i64 (q : Nat)] 3)) (by go_simp) ?_
        refine ⟨⟨cell_new hS.1 _, cell_new hS.2 _⟩, ?_⟩
        simp only [Act.put, List.setIfInBounds_toArray, List.set_cons_zero, List.set_cons_succ]
        refine HL_one (i := 13) rfl (by omega) (by kernel_rfl) rfl ?_
        refine wp_append (.tmp 23) (.tmp 28) 52 52 (by kernel_rfl) pv (.slice (some ⟨wr.heap.size, 0, none⟩) 1 1) (by go_simp) (by go_simp) (AppI wr g B q { s with W := v, P := updP s.P 4 pv } (rows.map Prod.snd ++ [q])) (by exact HAPP) ?_
        rintro v5 w5 ⟨r1, r2, r3, r4, gg, cc, rfl⟩
        have f3 := r1.free 12
        have y1 : w5.cell? ⟨g, 1, none⟩ = some (.int .i64 (q : Nat)) := RB.c1 r1
        have e3 : w5.cell? ⟨g, 12, none⟩ = some pv := RB.c12 r1
        refine ⟨⟨e3, y1⟩, ?_⟩
        simp only [Act.put, List.setIfInBounds_toArray, List.set_cons_zero, List.set_cons_succ]
        refine ⟨by kernel_rfl, ?_⟩
        simp only [List.drop_succ_cons, List.drop_zero]
        clear HAPP hS c2 c1 cp
        have R1 : Hid (Rx w5 g { s with W := v, P := updP s.P 4 pv } (.ok q)) := r1
        have R2 : Hid (RowI w5 B (.slice (some ⟨gg, 0, none⟩) (rows.map Prod.snd ++ [q]).length cc) (rows.map Prod.snd ++ [q])) := r2
        have R3 : Hid (But g B wr w5) := r3
        have R4 : Hid (∀ T, T ≠ 3 → KT T wr w5) := r4
        clear r1 r2 r3 r4 y1
        go_wp2_with fail
        obtain ⟨u5, hu5⟩ : ∃ u5 : Value, u5 = .slice (some ⟨gg, 0, none⟩) (rows.map Prod.snd ++ [q]).length cc := ⟨_, rfl⟩
        have hu5' : (Value.slice (some ⟨gg, 0, none⟩) (rows.length + 1) cc) = u5 := by rw [hu5]; simp
        rw [← hu5] at R2
        first | rw [hu5'] | (rw [show rows.length = k from hlen] at hu5'; rw [hu5']) | skip
        obtain ⟨w6, hw6⟩ : ∃ w6, w6 = w5.setCell ⟨g, 12, none⟩ u5 := ⟨_, rfl⟩
        rw [← hw6]
        have x6 : Rx w6 g { s with W := v, P := updP s.P 4 u5 } (.ok q) := by
          rw [hw6]
          have := R1.out.setPk (k := 4) (by omega) u5
          simp only [updP_same] at this
          exact this
        have b6' : But g B w w6 := by rw [hw6]; exact (HBUT.out.trans R3.out).setCell 12 u5
        have k6 : ∀ T, T ≠ 3 → T ≠ 88 → KT T wr w6 := fun T h1 h2 => by rw [hw6]; exact (R4.out T h1).trans (R1.out.setkt h2 12 u5)
        have pl6 : RowI w6 B u5 (rows.map Prod.snd ++ [q]) := by rw [hw6]; exact R2.out.kt (R1.out.setkt (T := 3) (by decide) 12 u5)
        have row6 : RowW w6 B v (rows.map Prod.fst) := HROW.out.kt (k6 _ (by decide) (by decide))
        have bx6 : BoxR w6 bx g := HBX.out.kt (k6 _ (by decide) (by decide))
        skip
        refine (wordsC_any g bx B q { s with W := v, P := updP s.P 4 u5 } l (rows.map Prod.fst) w6 bx6 x6 row6 ⟨hFn.out, hFle, hFlim, HFl.out w6 b6'⟩ (by obtain ⟨w0, q1, q2, q3⟩ := hw'.out; exact ⟨w0, q1.trans (b6'.below (B' := w0.heap.size) (by have := q1.size; omega) q3), q2, q3⟩) (Nat.le_trans hB b6'.size) hgB (by simp; omega)).mono ?_
        rintro e w7 ⟨rfl, ⟨c1, c2, c3⟩, t, v7, x', hst, x7, row7⟩
        have b7 : But g B w w7 := b6'.trans c1
        have hI7 : RI4 w g bx B p s l (k + 1) w7 := by
          rcases many_step hm hst with ⟨r, rfl, hm2⟩ | ⟨e, rfl, hm2⟩
          · exact .inl ⟨rows ++ [(t, q)], r, v7, u5, hm2, x7, (by rw [List.map_append]; exact row7), (by rw [List.map_append]; exact pl6.kt c2), c3, b7⟩
          · exact .inr ⟨e, _, hm2, x7, ⟨rfl, rfl, rfl, (by obtain ⟨x, c, hv⟩ := own_slice (T := 9) (k := 1) (n := (rows.map Prod.fst ++ [t]).length) (xs := cellsW (rows.map Prod.fst ++ [t])) row7; exact ⟨x, _, c, hv⟩)⟩, c3, b7⟩
        have HI7 : Hid (RI4 w g bx B p s l (k + 1) w7) := hI7
        clear hI7 x6 k6 pl6 row6 bx6 c1 c2 c3 hst x7 row7 b7 hw6
        go_wp2_with fail
        go_roundw
        case rel => exact ⟨k + 1, by omega, by go_num, HI7.out⟩
        case measure => simp only [intOf]; omega
      · have HE : Hid (RErr wr g s' e) := hx
        obtain ⟨p1, N, k1, k3, k4⟩ := hx
        have c2 := k1.c2
        clear k1 k4
        go_wp2_with fail
        exact bodyPost_ret (v := .tuple #[]) (results_none rfl _ _ _) rfl ⟨rfl, .inr ⟨e, s', manyP_stop hm n (by omega), HE.out, hsf, hbx, hbut⟩⟩
    · have hkn : k = n := by omega
      rw [hkn] at hI
      have HI : Hid (RI4 w g bx B p s l n wr) := hI
      clear hI
      go_wp2_with fail
      go_end0
      exact ⟨rfl, HI.out⟩
end Go.Proofs.YtplmmamebfpcjaaGreatDoor
end
section
/- reader.rows, list 5: its contract. -/
namespace Go.Proofs.YtplmmamebfpcjaaGreatDoor
open Go.RowKit Go.Sort Go.Joins
set_option linter.unusedVariables false
set_option maxRecDepth 100000
set_option linter.unusedSimpArgs false
def RI5 (w : World) (g bx B p : Nat) (s : RS) (l : List UInt8) (k : Nat) (wr : World) : Prop :=
  (∃ rows q v pv, manyP (mgP l) k p = .ok (rows, q) ∧ Rx wr g { s with M := v, P := updP s.P 5 pv } (.ok q) ∧ RowM wr B v (rows.map Prod.fst) ∧ RowI wr B pv (rows.map Prod.snd) ∧ BoxR wr bx g ∧ But g B w wr) ∨
  (∃ e s', manyP (mgP l) k p = .error e ∧ RErr wr g s' e ∧ SameF s s' ∧ BoxR wr bx g ∧ But g B w wr)
set_option maxHeartbeats 4000000 in
theorem rows5_any (g bx B p n : Nat) (s : RS) (l : List UInt8) (w : World) (hn : n ≤ 4096) (hbx : BoxR w bx g) (hr : Rx w g s (.ok p)) (hp0 : s.P 5 = .slice none 0 0) (hv0 : s.M = .slice none 0 0) (hWs : ∃ x m k, s.W = .slice x m k) (hF : Fl w s l) (hw : ∃ w0 : World, Below w0.heap.size w0 w ∧ Oc.BS w0 s.a l ∧ w0.heap.size ≤ g) (hB : B ≤ w.heap.size) (hgB : g < B) :
    Calls Tryz.prog 86 #[.pointer (some ⟨g, 0, none⟩), .int .i64 5, .int .i64 (n : Nat), .func (.func 89) #[] #[.pointer (some ⟨bx, 0, none⟩)]] w fun e w' => e = .returned (.tuple #[]) ∧ RI5 w g bx B p s l n w' := by
  have hFn : Hid (s.n = l.length) := hF.n
  have hFle := hF.le
  have hFlim := hF.lim
  have hw' : Hid (∃ w0 : World, Below w0.heap.size w0 w ∧ Oc.BS w0 s.a l ∧ w0.heap.size ≤ g) := hw
  have HFl : Hid (∀ wx, But g B w wx → Oc.BS wx s.a l) := fun wx hwx => by
    obtain ⟨w0, k1, k2, k3⟩ := hw
    exact k2.below (k1.trans (hwx.below (B' := w0.heap.size) (by have := k1.size; omega) k3))
  have hI0 : RI5 w g bx B p s l 0 w := by
    refine .inl ⟨[], p, .slice none 0 0, .slice none 0 0, rfl, ?_, RowM.nil w B, RowI.nil w B, hbx, But.refl _ _ _⟩
    have e : { s with M := .slice none 0 0, P := updP s.P 5 (.slice none 0 0) } = s := by
      obtain ⟨sa, sn, sc, sp, no, sW, sM, sA, sB, sC, sP, sbl⟩ := s
      simp only at hp0 hv0 ⊢
      have : updP sP 5 (.slice none 0 0) = sP := by
        funext i
        unfold updP
        by_cases h : i = 5
        · rw [if_pos h, h, hp0]
        · rw [if_neg h]
      rw [this, hv0]
    rw [e]; exact hr
  have HI0 : Hid (RI5 w g bx B p s l 0 w) := hI0
  clear hI0 hr hbx hF hw hp0 hv0
  have HWs : Hid (∃ x m k, s.W = .slice x m k) := hWs
  clear hWs
  go_enter Tryz.func86, Tryz.ntmps86
  go_wp2_with fail
  obtain ⟨W0, hW0⟩ : ∃ W0, W0 = w := ⟨_, rfl⟩
  go_loopw [9] (fun i wr => ∃ k : Nat, k ≤ n ∧ i = .int .i64 (k : Nat) ∧ RI5 w g bx B p s l k wr) (fun i _ => n - (intOf i).toNat)
  case atStart => exact ⟨0, Nat.zero_le _, rfl, HI0.out⟩
  case round =>
    obtain ⟨k, hk, rfl, hI⟩ := hrel
    clear HI0
    by_cases hlt : k < n
    · rcases hI with ⟨rows, q, v, pv, hm, hx, hrow, hpl, hbx, hbut⟩ | ⟨e, s', hm, hx, hsf, hbx, hbut⟩
      · have hlen : rows.length = k := manyP_len hm
        have c2 : wr.cell? ⟨g, 2, none⟩ = some (.pointer none) := RB.c2 hx
        have c1 : wr.cell? ⟨g, 1, none⟩ = some (.int .i64 (q : Nat)) := RB.c1 hx
        have cp : wr.cell? ⟨g, 13, none⟩ = some pv := RB.c13 hx
        have hd : Below wr.heap.size wr wr.drew := (Below.refl _ _).drew
        have hBr : B ≤ wr.heap.size := Nat.le_trans hB hbut.size
        have HAPP := appI_step wr wr.drew g B q { s with M := v, P := updP s.P 5 pv } pv (rows.map Prod.snd) (Rx.below hx hd) (hpl.kt (KT.of_below hd)) (But.of_below (hd.mono hBr)) (fun T _ => KT.of_below hd) (Nat.le_trans hBr hd.size) (by simp; omega)
        have hne : bx ≠ g := hbx.ne hx
        have HX : Hid (Rx wr g { s with M := v, P := updP s.P 5 pv } (.ok q)) := hx
        have HROW : Hid (RowM wr B v (rows.map Prod.fst)) := hrow
        have HBX : Hid (BoxR wr bx g) := hbx
        have HBUT : Hid (But g B w wr) := hbut
        skip
        clear hx hrow hpl hbx hbut
        go_wp2_with fail
        refine wp_region_heldtail 16 (fun w' => w'.cell? ⟨g, 13, none⟩ = some pv ∧ w'.cell? ⟨g, 1, none⟩ = some (.int .i64 (q : Nat))) (by kernel_rfl) (by kernel_rfl) ?_
        have hS : (wr.drew.cell? ⟨g, 13, none⟩ = some pv ∧ wr.drew.cell? ⟨g, 1, none⟩ = some (.int .i64 (q : Nat))) := ⟨by simpa using cp, by simpa using c1⟩
        refine HL_take (i := 0) (.pointer (some ⟨g, 0, none⟩)) (by kernel_rfl) rfl (by omega) (by kernel_rfl) (by kernel_rfl) (by kernel_rfl) (fun _ _ _ h => h) (.inl ⟨by kernel_rfl, fun w' hw' => by obtain ⟨u0, u1⟩ := hw'; go_simp⟩) hS ?_
        simp only [Act.put, List.setIfInBounds_toArray, List.set_cons_zero, List.set_cons_succ]
        refine HL_take (i := 1) (.int .i64 5) (by kernel_rfl) rfl (by omega) (by kernel_rfl) (by kernel_rfl) (by kernel_rfl) (fun _ _ _ h => h) (.inl ⟨by kernel_rfl, fun w' hw' => by obtain ⟨u0, u1⟩ := hw'; go_simp⟩) hS ?_
        simp only [Act.put, List.setIfInBounds_toArray, List.set_cons_zero, List.set_cons_succ]
        refine HL_take (i := 2) (.pointer (some ⟨g, 0, none⟩)) (by kernel_rfl) rfl (by omega) (by kernel_rfl) (by kernel_rfl) (by kernel_rfl) (fun _ _ _ h => h) (.inl ⟨by kernel_rfl, fun w' hw' => by obtain ⟨u0, u1⟩ := hw'; go_simp⟩) hS ?_
        simp only [Act.put, List.setIfInBounds_toArray, List.set_cons_zero, List.set_cons_succ]
        refine HL_take (i := 3) (.int .i64 5) (by kernel_rfl) rfl (by omega) (by kernel_rfl) (by kernel_rfl) (by kernel_rfl) (fun _ _ _ h => h) (.inl ⟨by kernel_rfl, fun w' hw' => by obtain ⟨u0, u1⟩ := hw'; go_simp⟩) hS ?_
        simp only [Act.put, List.setIfInBounds_toArray, List.set_cons_zero, List.set_cons_succ]
        refine HL_take (i := 4) (.pointer (some ⟨g, 0, none⟩)) (by kernel_rfl) rfl (by omega) (by kernel_rfl) (by kernel_rfl) (by kernel_rfl) (fun _ _ _ h => h) (.inl ⟨by kernel_rfl, fun w' hw' => by obtain ⟨u0, u1⟩ := hw'; go_simp⟩) hS ?_
        simp only [Act.put, List.setIfInBounds_toArray, List.set_cons_zero, List.set_cons_succ]
        refine HL_take (i := 5) (.pointer (some ⟨g, 8, none⟩)) (by kernel_rfl) rfl (by omega) (by kernel_rfl) (by kernel_rfl) (by kernel_rfl) (fun _ _ _ h => h) (.inl ⟨by kernel_rfl, fun w' hw' => by obtain ⟨u0, u1⟩ := hw'; go_simp⟩) hS ?_
        simp only [Act.put, List.setIfInBounds_toArray, List.set_cons_zero, List.set_cons_succ]
        refine HL_take (i := 6) (.pointer (some ⟨g, 13, none⟩)) (by kernel_rfl) rfl (by omega) (by kernel_rfl) (by kernel_rfl) (by kernel_rfl) (fun _ _ _ h => h) (.inl ⟨by kernel_rfl, fun w' hw' => by obtain ⟨u0, u1⟩ := hw'; go_simp⟩) hS ?_
        simp only [Act.put, List.setIfInBounds_toArray, List.set_cons_zero, List.set_cons_succ]
        refine HL_take (i := 7) (pv) (by kernel_rfl) rfl (by omega) (by kernel_rfl) (by kernel_rfl) (by kernel_rfl) (fun _ _ _ h => h) (.inl ⟨by kernel_rfl, fun w' hw' => by obtain ⟨u0, u1⟩ := hw'; go_simp⟩) hS ?_
        simp only [Act.put, List.setIfInBounds_toArray, List.set_cons_zero, List.set_cons_succ]
        refine HL_take (i := 8) (.pointer (some ⟨g, 0, none⟩)) (by kernel_rfl) rfl (by omega) (by kernel_rfl) (by kernel_rfl) (by kernel_rfl) (fun _ _ _ h => h) (.inl ⟨by kernel_rfl, fun w' hw' => by obtain ⟨u0, u1⟩ := hw'; go_simp⟩) hS ?_
        simp only [Act.put, List.setIfInBounds_toArray, List.set_cons_zero, List.set_cons_succ]
        refine HL_take (i := 9) (.pointer (some ⟨g, 0, none⟩)) (by kernel_rfl) rfl (by omega) (by kernel_rfl) (by kernel_rfl) (by kernel_rfl) (fun _ _ _ h => h) (.inl ⟨by kernel_rfl, fun w' hw' => by obtain ⟨u0, u1⟩ := hw'; go_simp⟩) hS ?_
        simp only [Act.put, List.setIfInBounds_toArray, List.set_cons_zero, List.set_cons_succ]
        refine HL_take (i := 10) (.pointer (some ⟨g, 1, none⟩)) (by kernel_rfl) rfl (by omega) (by kernel_rfl) (by kernel_rfl) (by kernel_rfl) (fun _ _ _ h => h) (.inl ⟨by kernel_rfl, fun w' hw' => by obtain ⟨u0, u1⟩ := hw'; go_simp⟩) hS ?_
        simp only [Act.put, List.setIfInBounds_toArray, List.set_cons_zero, List.set_cons_succ]
        refine HL_take (i := 11) (.int .i64 (q : Nat)) (by kernel_rfl) rfl (by omega) (by kernel_rfl) (by kernel_rfl) (by kernel_rfl) (fun _ _ _ h => h) (.inl ⟨by kernel_rfl, fun w' hw' => by obtain ⟨u0, u1⟩ := hw'; go_simp⟩) hS ?_
        simp only [Act.put, List.setIfInBounds_toArray, List.set_cons_zero, List.set_cons_succ]
        refine HL_take (i := 14) (.pointer (some ⟨g, 0, none⟩)) (by kernel_rfl) rfl (by omega) (by kernel_rfl) (by kernel_rfl) (by kernel_rfl) (fun _ _ _ h => h) (.inl ⟨by kernel_rfl, fun w' hw' => by obtain ⟨u0, u1⟩ := hw'; go_simp⟩) hS ?_
        simp only [Act.put, List.setIfInBounds_toArray, List.set_cons_zero, List.set_cons_succ]
        refine HL_take (i := 15) (.pointer (some ⟨g, 8, none⟩)) (by kernel_rfl) rfl (by omega) (by kernel_rfl) (by kernel_rfl) (by kernel_rfl) (fun _ _ _ h => h) (.inl ⟨by kernel_rfl, fun w' hw' => by obtain ⟨u0, u1⟩ := hw'; go_simp⟩) hS ?_
        simp only [Act.put, List.setIfInBounds_toArray, List.set_cons_zero, List.set_cons_succ]
        refine HL_one (i := 12) rfl (by omega) (by kernel_rfl) rfl ?_
        refine wp_value (v := .slice (some ⟨wr.heap.size, 0, none⟩) 1 1) (w' := wr.drew.alloc (.cells #[.int .i64 (q : Nat)] 3)) (by go_simp) ?_
        refine ⟨⟨cell_new hS.1 _, cell_new hS.2 _⟩, ?_⟩
        simp only [Act.put, List.setIfInBounds_toArray, List.set_cons_zero, List.set_cons_succ]
        refine HL_one (i := 13) rfl (by omega) (by kernel_rfl) rfl ?_
        refine wp_append (.tmp 23) (.tmp 28) 52 52 (by kernel_rfl) pv (.slice (some ⟨wr.heap.size, 0, none⟩) 1 1) (by go_simp) (by go_simp) (AppI wr g B q { s with M := v, P := updP s.P 5 pv } (rows.map Prod.snd ++ [q])) (by exact HAPP) ?_
        rintro v5 w5 ⟨r1, r2, r3, r4, gg, cc, rfl⟩
        have f3 := r1.free 13
        have y1 : w5.cell? ⟨g, 1, none⟩ = some (.int .i64 (q : Nat)) := RB.c1 r1
        have e3 : w5.cell? ⟨g, 13, none⟩ = some pv := RB.c13 r1
        refine ⟨⟨e3, y1⟩, ?_⟩
        simp only [Act.put, List.setIfInBounds_toArray, List.set_cons_zero, List.set_cons_succ]
        refine ⟨by kernel_rfl, ?_⟩
        simp only [List.drop_succ_cons, List.drop_zero]
        clear HAPP hS c2 c1 cp
        have R1 : Hid (Rx w5 g { s with M := v, P := updP s.P 5 pv } (.ok q)) := r1
        have R2 : Hid (RowI w5 B (.slice (some ⟨gg, 0, none⟩) (rows.map Prod.snd ++ [q]).length cc) (rows.map Prod.snd ++ [q])) := r2
        have R3 : Hid (But g B wr w5) := r3
        have R4 : Hid (∀ T, T ≠ 3 → KT T wr w5) := r4
        clear r1 r2 r3 r4 y1
        go_wp2_with fail
        obtain ⟨u5, hu5⟩ : ∃ u5 : Value, u5 = .slice (some ⟨gg, 0, none⟩) (rows.map Prod.snd ++ [q]).length cc := ⟨_, rfl⟩
        have hu5' : (Value.slice (some ⟨gg, 0, none⟩) (rows.length + 1) cc) = u5 := by rw [hu5]; simp
        rw [← hu5] at R2
        first | rw [hu5'] | (rw [show rows.length = k from hlen] at hu5'; rw [hu5']) | skip
        obtain ⟨w6, hw6⟩ : ∃ w6, w6 = w5.setCell ⟨g, 13, none⟩ u5 := ⟨_, rfl⟩
        rw [← hw6]
        have x6 : Rx w6 g { s with M := v, P := updP s.P 5 u5 } (.ok q) := by
          rw [hw6]
          have := R1.out.setPk (k := 5) (by omega) u5
          simp only [updP_same] at this
          exact this
        have b6' : But g B w w6 := by rw [hw6]; exact (HBUT.out.trans R3.out).setCell 13 u5
        have k6 : ∀ T, T ≠ 3 → T ≠ 88 → KT T wr w6 := fun T h1 h2 => by rw [hw6]; exact (R4.out T h1).trans (R1.out.setkt h2 13 u5)
        have pl6 : RowI w6 B u5 (rows.map Prod.snd ++ [q]) := by rw [hw6]; exact R2.out.kt (R1.out.setkt (T := 3) (by decide) 13 u5)
        have row6 : RowM w6 B v (rows.map Prod.fst) := HROW.out.kt (k6 _ (by decide) (by decide))
        have bx6 : BoxR w6 bx g := HBX.out.kt (k6 _ (by decide) (by decide))
        skip
        refine (mergesC_any g bx B q { s with M := v, P := updP s.P 5 u5 } l (rows.map Prod.fst) w6 bx6 x6 row6 ⟨hFn.out, hFle, hFlim, HFl.out w6 b6'⟩ (by obtain ⟨w0, q1, q2, q3⟩ := hw'.out; exact ⟨w0, q1.trans (b6'.below (B' := w0.heap.size) (by have := q1.size; omega) q3), q2, q3⟩) (Nat.le_trans hB b6'.size) hgB (by simp; omega)).mono ?_
        rintro e w7 ⟨rfl, ⟨c1, c2, c3⟩, t, v7, x', hst, x7, row7⟩
        have b7 : But g B w w7 := b6'.trans c1
        have hI7 : RI5 w g bx B p s l (k + 1) w7 := by
          rcases many_step hm hst with ⟨r, rfl, hm2⟩ | ⟨e, rfl, hm2⟩
          · exact .inl ⟨rows ++ [(t, q)], r, v7, u5, hm2, x7, (by rw [List.map_append]; exact row7), (by rw [List.map_append]; exact pl6.kt c2), c3, b7⟩
          · exact .inr ⟨e, _, hm2, x7, ⟨rfl, rfl, rfl, HWs.out⟩, c3, b7⟩
        have HI7 : Hid (RI5 w g bx B p s l (k + 1) w7) := hI7
        clear hI7 x6 k6 pl6 row6 bx6 c1 c2 c3 hst x7 row7 b7 hw6
        go_wp2_with fail
        go_roundw
        case rel => exact ⟨k + 1, by omega, by go_num, HI7.out⟩
        case measure => simp only [intOf]; omega
      · have HE : Hid (RErr wr g s' e) := hx
        obtain ⟨p1, N, k1, k3, k4⟩ := hx
        have c2 := k1.c2
        clear k1 k4
        go_wp2_with fail
        exact bodyPost_ret (v := .tuple #[]) (results_none rfl _ _ _) rfl ⟨rfl, .inr ⟨e, s', manyP_stop hm n (by omega), HE.out, hsf, hbx, hbut⟩⟩
    · have hkn : k = n := by omega
      rw [hkn] at hI
      have HI : Hid (RI5 w g bx B p s l n wr) := hI
      clear hI
      go_wp2_with fail
      go_end0
      exact ⟨rfl, HI.out⟩
end Go.Proofs.YtplmmamebfpcjaaGreatDoor
end
section
/- reader.words, reader.merges: their contracts. -/
namespace Go.Proofs.YtplmmamebfpcjaaGreatDoor
open Go.RowKit Go.Sort Go.Joins
set_option linter.unusedVariables false
set_option maxRecDepth 100000
set_option linter.unusedSimpArgs false
set_option maxHeartbeats 1000000 in
theorem rows_err (g n : Nat) (li : Int) (f : Value) (s : RS) (r : Er) (w : World) (h : RErr w g s r) :
    Calls Tryz.prog 86 #[.pointer (some ⟨g, 0, none⟩), .int .i64 li, .int .i64 (n : Nat), f] w fun e w' => e = .returned (.tuple #[]) ∧ w' = w := by
  obtain ⟨p, N, k1, k3, k4⟩ := h
  have c2 := k1.c2
  have hn0 : (0 : Int) ≤ (n : Int) := by omega
  clear k1 k4
  go_enter Tryz.func86, Tryz.ntmps86
  go_wp2_with fail
  go_loopw [9] (fun i wr => i = .int .i64 0 ∧ wr = w) (fun i _ => 0)
  case atStart => exact ⟨rfl, rfl⟩
  case round =>
    obtain ⟨rfl, rfl⟩ := hrel
    by_cases h0 : 0 < n
    · have h1 : (0 : Int) < (n : Int) := by omega
      go_wp2_with fail
      exact bodyPost_ret (v := .tuple #[]) (results_none rfl _ _ _) rfl ⟨rfl, rfl⟩
    · have h1 : ¬ (0 : Int) < (n : Int) := by omega
      go_wp2_with fail
      go_end0
      exact ⟨rfl, rfl⟩
def WordsQ (w' : World) (g B : Nat) (s : RS) (x : Except Er (List (ByteArray × Nat) × Nat)) : Prop :=
  match x with
  | .ok (rows, q) => ∃ v pv, Rx w' g { s with W := v, P := updP s.P 4 pv } (.ok q) ∧ RowW w' B v (rows.map Prod.fst) ∧ RowI w' B pv (rows.map Prod.snd)
  | .error e => ∃ s', RErr w' g s' e ∧ SameF s s'
def MergesQ (w' : World) (g B : Nat) (s : RS) (x : Except Er (List (Mg × Nat) × Nat)) : Prop :=
  match x with
  | .ok (rows, q) => ∃ v pv, Rx w' g { s with M := v, P := updP s.P 5 pv } (.ok q) ∧ RowM w' B v (rows.map Prod.fst) ∧ RowI w' B pv (rows.map Prod.snd)
  | .error e => ∃ s', RErr w' g s' e ∧ SameF s s'
theorem RI4.q {w : World} {g bx B p : Nat} {s : RS} {l : List UInt8} {k : Nat} {wr : World} (h : RI4 w g bx B p s l k wr) : But g B w wr ∧ WordsQ wr g B s (manyP (wordP l) k p) := by
  rcases h with ⟨rows, q, v, pv, hm, hx, hrow, hpl, hbx, hbut⟩ | ⟨e, s', hm, hx, hsf, hbx, hbut⟩
  · rw [hm]; exact ⟨hbut, v, pv, hx, hrow, hpl⟩
  · rw [hm]; exact ⟨hbut, s', hx, hsf⟩
theorem RI5.q {w : World} {g bx B p : Nat} {s : RS} {l : List UInt8} {k : Nat} {wr : World} (h : RI5 w g bx B p s l k wr) : But g B w wr ∧ MergesQ wr g B s (manyP (mgP l) k p) := by
  rcases h with ⟨rows, q, v, pv, hm, hx, hrow, hpl, hbx, hbut⟩ | ⟨e, s', hm, hx, hsf, hbx, hbut⟩
  · rw [hm]; exact ⟨hbut, v, pv, hx, hrow, hpl⟩
  · rw [hm]; exact ⟨hbut, s', hx, hsf⟩
theorem BoxR.new (w : World) (g : Nat) : BoxR (w.alloc (.cells #[.pointer (some ⟨g, 0, none⟩)] 121)) w.heap.size g := heap_alloc_new _ _
theorem SameF.refl {s : RS} (h : ∃ x m k, s.W = .slice x m k) : SameF s s := ⟨rfl, rfl, rfl, h⟩
theorem ctx_step {w w1 : World} {s : RS} {l : List UInt8} {g B : Nat} (hw : ∃ w0 : World, Below w0.heap.size w0 w ∧ Oc.BS w0 s.a l ∧ w0.heap.size ≤ g) (hb : But g B w w1) (hB : g < B) : ∃ w0 : World, Below w0.heap.size w0 w1 ∧ Oc.BS w0 s.a l ∧ w0.heap.size ≤ g := by
  obtain ⟨w0, k1, k2, k3⟩ := hw
  exact ⟨w0, k1.trans (hb.below (B' := w0.heap.size) (by omega) k3), k2, k3⟩
theorem Fl.step {w w1 : World} {s : RS} {l : List UInt8} {g B : Nat} (h : Fl w s l) (hw : ∃ w0 : World, Below w0.heap.size w0 w ∧ Oc.BS w0 s.a l ∧ w0.heap.size ≤ g) (hb : But g B w w1) (hB : g < B) : Fl w1 s l := by
  obtain ⟨w0, k1, k2, k3⟩ := hw
  exact ⟨h.n, h.le, h.lim, k2.below (k1.trans (hb.below (B' := w0.heap.size) (by omega) k3))⟩
set_option maxHeartbeats 4000000 in
theorem words_ok (g p : Nat) (s : RS) (l : List UInt8) (w : World) (hr : Rx w g s (.ok p)) (hp0 : s.P 4 = .slice none 0 0) (hv0 : s.W = .slice none 0 0) (hF : Fl w s l) (hw : ∃ w0 : World, Below w0.heap.size w0 w ∧ Oc.BS w0 s.a l ∧ w0.heap.size ≤ g) :
    Calls Tryz.prog 64 #[.pointer (some ⟨g, 0, none⟩)] w fun e w' => e = .returned (.tuple #[]) ∧ But g w.heap.size w w' ∧ WordsQ w' g w.heap.size s (andP (numP l 0 4096 4 p) fun n q => manyP (wordP l) n q) := by
  have hb0 := box_below w (.cells #[.pointer (some ⟨g, 0, none⟩)] 121)
  have hbx0 := BoxR.new w g
  have hgl : g < w.heap.size := RB.lt hr
  have hx0 := Rx.below hr hb0
  obtain ⟨Y, hY⟩ : ∃ Y, Y = w.alloc (.cells #[.pointer (some ⟨g, 0, none⟩)] 121) := ⟨_, rfl⟩
  have c0 := hbx0.cell
  rw [← hY] at hb0 hbx0 hx0
  have hbut0 : But g w.heap.size w Y := But.of_below hb0
  have hF0 := hF.step hw hbut0 hgl
  have hw0 := ctx_step hw hbut0 hgl
  have HN := number_uni g s l (.ok p) 0 4096 4 Y (by omega) (by omega) hx0 hF0
  have hle := numX_le l 0 4096 4 (.ok p)
  have HY : Hid (Y = w.alloc (.cells #[.pointer (some ⟨g, 0, none⟩)] 121)) := hY
  have HW0 : Hid (∃ w0 : World, Below w0.heap.size w0 Y ∧ Oc.BS w0 s.a l ∧ w0.heap.size ≤ g) := hw0
  have HF0 : Hid (Fl Y s l) := hF0
  have HBX : Hid (BoxR Y w.heap.size g) := hbx0
  have HP0 : Hid (s.P 4 = .slice none 0 0) := hp0
  have HV0 : Hid (s.W = .slice none 0 0) := hv0
  have hYs : w.heap.size ≤ Y.heap.size := hb0.size
  have hYs1 : Y.heap.size = w.heap.size + 1 := by rw [hY]; simp
  have HYs1 : Hid (Y.heap.size = w.heap.size + 1) := hYs1
  clear hr hF hw hx0 hF0 hw0 hp0 hv0 hY hYs1
  cases hx : numP l 0 4096 4 p with
  | error r =>
    rw [numX_no hx] at HN hle
    simp only [andP] at HN ⊢
    go_enter Tryz.func64, Tryz.ntmps64
    go_wp2_with fail
    rw [← HY.out]
    refine HN.mono ?_
    rintro e w1 ⟨rfl, h1, h2⟩
    have hbut1 : But g w.heap.size w w1 := hbut0.trans (h2.mono hYs)
    have hbx1 : BoxR w1 w.heap.size g := (h2.2.2.2.2 w.heap.size (by rw [HYs1.out]; omega) (by omega)).trans HBX.out
    have c1 := hbx1.cell
    clear HN c0 h2 hbx1
    go_wp2_with fail
    refine (rows_err g 0 4 _ s r w1 h1).mono ?_
    rintro e w2 ⟨rfl, rfl⟩
    go_wp2_with fail
    go_end0
    exact ⟨rfl, hbut1, s, h1, .refl ⟨_, _, _, HV0.out⟩⟩
  | ok k =>
    obtain ⟨n, q⟩ := k
    rw [numX_ok hx] at HN hle
    simp only [andP] at HN hle ⊢
    go_enter Tryz.func64, Tryz.ntmps64
    go_wp2_with fail
    rw [← HY.out]
    refine HN.mono ?_
    rintro e w1 ⟨rfl, h1, h2⟩
    have hgY : g < Y.heap.size := by omega
    have hbut1 : But g w.heap.size w w1 := hbut0.trans (h2.mono hYs)
    have hbx1 : BoxR w1 w.heap.size g := (h2.2.2.2.2 w.heap.size (by rw [HYs1.out]; omega) (by omega)).trans HBX.out
    have c1 := hbx1.cell
    have H1 : Hid (Rx w1 g s (.ok q)) := h1
    have hF1 := HF0.out.step HW0.out h2 hgY
    have hw1 := ctx_step HW0.out h2 hgY
    clear HN c0 h1
    go_wp2_with fail
    refine (rows4_any g w.heap.size w.heap.size q n s l w1 hle hbx1 H1.out HP0.out HV0.out hF1 hw1 (Nat.le_trans hYs h2.size) hgl).mono ?_
    rintro e w2 ⟨rfl, hI⟩
    obtain ⟨k1, k2⟩ := hI.q
    go_wp2_with fail
    go_end0
    exact ⟨rfl, hbut1.trans k1, k2⟩
end Go.Proofs.YtplmmamebfpcjaaGreatDoor
end
section
/- reader.merges; reader.words behind a refusal: their contracts. -/
namespace Go.Proofs.YtplmmamebfpcjaaGreatDoor
open Go.RowKit Go.Sort Go.Joins
set_option linter.unusedVariables false
set_option maxRecDepth 100000
set_option linter.unusedSimpArgs false
theorem RErr.but {w w' : World} {g B : Nat} {s : RS} {e : Er} (h : RErr w g s e) (hb : Below B w w') (hB : w.heap.size ≤ B) : RErr w' g s e := h.below (hb.mono hB)
set_option maxHeartbeats 1000000 in
theorem words_bad (g : Nat) (s : RS) (r : Er) (w : World) (h : RErr w g s r) :
    Calls Tryz.prog 64 #[.pointer (some ⟨g, 0, none⟩)] w fun e w' => e = .returned (.tuple #[]) ∧ RErr w' g s r ∧ But g w.heap.size w w' := by
  have hb0 := box_below w (.cells #[.pointer (some ⟨g, 0, none⟩)] 121)
  have hbx0 := BoxR.new w g
  have c0 := hbx0.cell
  have h0 := h.below hb0
  have hN := number_bad g s r 0 4096 4 _ h0
  have hR := rows_err g 0 4 (.func (.func 87) #[] #[.pointer (some ⟨w.heap.size, 0, none⟩)]) s r _ h0
  clear hbx0
  go_enter Tryz.func64, Tryz.ntmps64
  go_wp2_with fail
  refine hN.mono ?_
  rintro e w1 ⟨rfl, rfl⟩
  go_wp2_with fail
  refine hR.mono ?_
  rintro e w1 ⟨rfl, rfl⟩
  go_wp2_with fail
  go_end0
  exact ⟨rfl, h0, But.of_below hb0⟩
set_option maxHeartbeats 4000000 in
theorem merges_ok (g p n c : Nat) (x : Option Addr) (s : RS) (l : List UInt8) (w : World) (hn : n ≤ 4096) (hr : Rx w g s (.ok p)) (hW : s.W = .slice x n c) (hp0 : s.P 5 = .slice none 0 0) (hv0 : s.M = .slice none 0 0) (hF : Fl w s l) (hw : ∃ w0 : World, Below w0.heap.size w0 w ∧ Oc.BS w0 s.a l ∧ w0.heap.size ≤ g) :
    Calls Tryz.prog 65 #[.pointer (some ⟨g, 0, none⟩)] w fun e w' => e = .returned (.tuple #[]) ∧ But g w.heap.size w w' ∧ MergesQ w' g w.heap.size s (manyP (mgP l) n p) := by
  have hb0 := box_below w (.cells #[.pointer (some ⟨g, 0, none⟩)] 121)
  have hbx0 := BoxR.new w g
  have hgl : g < w.heap.size := hr.lt
  have hx0 := hr.below hb0
  obtain ⟨Y, hY⟩ : ∃ Y, Y = w.alloc (.cells #[.pointer (some ⟨g, 0, none⟩)] 121) := ⟨_, rfl⟩
  rw [← hY] at hb0 hbx0 hx0
  have c0 := hbx0.cell
  have c3 : Y.cell? ⟨g, 3, none⟩ = some (.slice x n c) := by
    have h3 : Y.cell? ⟨g, 3, none⟩ = some s.W := RB.c3 (s := { s with p := p, no := none }) hx0
    rw [h3, hW]
  have hbut0 : But g w.heap.size w Y := But.of_below hb0
  have hd : Below Y.heap.size Y Y.drew := (Below.refl _ _).drew
  have hYs : w.heap.size ≤ Y.heap.size := hb0.size
  have hbut1 : But g w.heap.size w Y.drew := hbut0.trans (But.of_below (hd.mono hYs))
  have hx1 : Rx Y.drew g s (.ok p) := Rx.below hx0 hd
  have hbx1 : BoxR Y.drew w.heap.size g := hbx0.kt (KT.of_below hd)
  have HC := rows5_any g w.heap.size w.heap.size p n s l Y.drew hn hbx1 hx1 hp0 hv0 ⟨x, n, c, hW⟩ (hF.step hw hbut1 hgl) (ctx_step hw hbut1 hgl) (Nat.le_trans hYs hd.size) hgl
  have HY : Hid (Y = w.alloc (.cells #[.pointer (some ⟨g, 0, none⟩)] 121)) := hY
  clear hY hr hbx0 hx0 hW hp0 hv0 hF hw hbx1 hx1
  go_enter Tryz.func65, Tryz.ntmps65
  go_wp2_with fail
  rw [← HY.out]
  refine wp_region_heldtail 8 (fun w' => w'.cell? ⟨w.heap.size, 0, none⟩ = some (.pointer (some ⟨g, 0, none⟩)) ∧ w'.cell? ⟨g, 3, none⟩ = some (.slice x n c)) (by kernel_rfl) (by kernel_rfl) ?_
  have hS : (Y.drew.cell? ⟨w.heap.size, 0, none⟩ = some (.pointer (some ⟨g, 0, none⟩)) ∧ Y.drew.cell? ⟨g, 3, none⟩ = some (.slice x n c)) := ⟨by simpa using c0, by simpa using c3⟩
  refine HL_take (i := 0) (.pointer (some ⟨g, 0, none⟩)) (by kernel_rfl) rfl (by omega) (by kernel_rfl) (by kernel_rfl) (by kernel_rfl) (fun _ _ _ h => h) (.inl ⟨by kernel_rfl, fun w' hw' => by obtain ⟨u0, u3⟩ := hw'; go_simp⟩) hS ?_
  simp only [Act.put, List.setIfInBounds_toArray, List.set_cons_zero, List.set_cons_succ]
  refine HL_take (i := 1) (.pointer (some ⟨g, 0, none⟩)) (by kernel_rfl) rfl (by omega) (by kernel_rfl) (by kernel_rfl) (by kernel_rfl) (fun _ _ _ h => h) (.inl ⟨by kernel_rfl, fun w' hw' => by obtain ⟨u0, u3⟩ := hw'; go_simp⟩) hS ?_
  simp only [Act.put, List.setIfInBounds_toArray, List.set_cons_zero, List.set_cons_succ]
  refine HL_take (i := 2) (.pointer (some ⟨g, 0, none⟩)) (by kernel_rfl) rfl (by omega) (by kernel_rfl) (by kernel_rfl) (by kernel_rfl) (fun _ _ _ h => h) (.inl ⟨by kernel_rfl, fun w' hw' => by obtain ⟨u0, u3⟩ := hw'; go_simp⟩) hS ?_
  simp only [Act.put, List.setIfInBounds_toArray, List.set_cons_zero, List.set_cons_succ]
  refine HL_take (i := 3) (.pointer (some ⟨g, 3, none⟩)) (by kernel_rfl) rfl (by omega) (by kernel_rfl) (by kernel_rfl) (by kernel_rfl) (fun _ _ _ h => h) (.inl ⟨by kernel_rfl, fun w' hw' => by obtain ⟨u0, u3⟩ := hw'; go_simp⟩) hS ?_
  simp only [Act.put, List.setIfInBounds_toArray, List.set_cons_zero, List.set_cons_succ]
  refine HL_take (i := 4) (.pointer (some ⟨g, 3, none⟩)) (by kernel_rfl) rfl (by omega) (by kernel_rfl) (by kernel_rfl) (by kernel_rfl) (fun _ _ _ h => h) (.inl ⟨by kernel_rfl, fun w' hw' => by obtain ⟨u0, u3⟩ := hw'; go_simp⟩) hS ?_
  simp only [Act.put, List.setIfInBounds_toArray, List.set_cons_zero, List.set_cons_succ]
  refine HL_take (i := 5) (.slice x n c) (by kernel_rfl) rfl (by omega) (by kernel_rfl) (by kernel_rfl) (by kernel_rfl) (fun _ _ _ h => h) (.inl ⟨by kernel_rfl, fun w' hw' => by obtain ⟨u0, u3⟩ := hw'; go_simp⟩) hS ?_
  simp only [Act.put, List.setIfInBounds_toArray, List.set_cons_zero, List.set_cons_succ]
  refine HL_take (i := 6) (.int .i64 (n : Nat)) (by kernel_rfl) rfl (by omega) (by kernel_rfl) (by kernel_rfl) (by kernel_rfl) (fun _ _ _ h => h) (.inl ⟨by kernel_rfl, fun w' hw' => by obtain ⟨u0, u3⟩ := hw'; go_simp⟩) hS ?_
  simp only [Act.put, List.setIfInBounds_toArray, List.set_cons_zero, List.set_cons_succ]
  refine HL_take (i := 7) (.func (.func 89) #[] #[.pointer (some ⟨w.heap.size, 0, none⟩)]) (by kernel_rfl) rfl (by omega) (by kernel_rfl) (by kernel_rfl) (by kernel_rfl) (fun _ _ _ h => h) (.inl ⟨by kernel_rfl, fun w' hw' => by obtain ⟨u0, u3⟩ := hw'; go_simp⟩) hS ?_
  simp only [Act.put, List.setIfInBounds_toArray, List.set_cons_zero, List.set_cons_succ]
  refine ⟨by kernel_rfl, ?_⟩
  simp only [List.drop_succ_cons, List.drop_zero]
  go_wp2_with fail
  refine HC.mono ?_
  rintro e w2 ⟨rfl, hI⟩
  obtain ⟨k1, k2⟩ := hI.q
  go_wp2_with fail
  go_end0
  exact ⟨rfl, hbut1.trans k1, k2⟩
set_option maxHeartbeats 4000000 in
theorem merges_bad (g n c : Nat) (x : Option Addr) (s : RS) (r : Er) (w : World) (hr : RErr w g s r) (hW : s.W = .slice x n c) :
    Calls Tryz.prog 65 #[.pointer (some ⟨g, 0, none⟩)] w fun e w' => e = .returned (.tuple #[]) ∧ RErr w' g s r ∧ But g w.heap.size w w' := by
  have hb0 := box_below w (.cells #[.pointer (some ⟨g, 0, none⟩)] 121)
  have hbx0 := BoxR.new w g
  have hgl : g < w.heap.size := hr.lt
  have hx0 := hr.below hb0
  obtain ⟨Y, hY⟩ : ∃ Y, Y = w.alloc (.cells #[.pointer (some ⟨g, 0, none⟩)] 121) := ⟨_, rfl⟩
  rw [← hY] at hb0 hbx0 hx0
  have c0 := hbx0.cell
  have c3 : Y.cell? ⟨g, 3, none⟩ = some (.slice x n c) := by
    obtain ⟨p, N, k1, _⟩ := hx0
    have h3 : Y.cell? ⟨g, 3, none⟩ = some s.W := k1.c3
    rw [h3, hW]
  have hbut0 : But g w.heap.size w Y := But.of_below hb0
  have hd : Below Y.heap.size Y Y.drew := (Below.refl _ _).drew
  have hYs : w.heap.size ≤ Y.heap.size := hb0.size
  have hbut1 : But g w.heap.size w Y.drew := hbut0.trans (But.of_below (hd.mono hYs))
  have hx1 : RErr Y.drew g s r := RErr.below hx0 hd
  have hbx1 : BoxR Y.drew w.heap.size g := hbx0.kt (KT.of_below hd)
  have HC := rows_err g n 5 (.func (.func 89) #[] #[.pointer (some ⟨w.heap.size, 0, none⟩)]) s r Y.drew hx1
  have HY : Hid (Y = w.alloc (.cells #[.pointer (some ⟨g, 0, none⟩)] 121)) := hY
  clear hY hr hbx0 hx0 hW hbx1
  go_enter Tryz.func65, Tryz.ntmps65
  go_wp2_with fail
  rw [← HY.out]
  refine wp_region_heldtail 8 (fun w' => w'.cell? ⟨w.heap.size, 0, none⟩ = some (.pointer (some ⟨g, 0, none⟩)) ∧ w'.cell? ⟨g, 3, none⟩ = some (.slice x n c)) (by kernel_rfl) (by kernel_rfl) ?_
  have hS : (Y.drew.cell? ⟨w.heap.size, 0, none⟩ = some (.pointer (some ⟨g, 0, none⟩)) ∧ Y.drew.cell? ⟨g, 3, none⟩ = some (.slice x n c)) := ⟨by simpa using c0, by simpa using c3⟩
  refine HL_take (i := 0) (.pointer (some ⟨g, 0, none⟩)) (by kernel_rfl) rfl (by omega) (by kernel_rfl) (by kernel_rfl) (by kernel_rfl) (fun _ _ _ h => h) (.inl ⟨by kernel_rfl, fun w' hw' => by obtain ⟨u0, u3⟩ := hw'; go_simp⟩) hS ?_
  simp only [Act.put, List.setIfInBounds_toArray, List.set_cons_zero, List.set_cons_succ]
  refine HL_take (i := 1) (.pointer (some ⟨g, 0, none⟩)) (by kernel_rfl) rfl (by omega) (by kernel_rfl) (by kernel_rfl) (by kernel_rfl) (fun _ _ _ h => h) (.inl ⟨by kernel_rfl, fun w' hw' => by obtain ⟨u0, u3⟩ := hw'; go_simp⟩) hS ?_
  simp only [Act.put, List.setIfInBounds_toArray, List.set_cons_zero, List.set_cons_succ]
  refine HL_take (i := 2) (.pointer (some ⟨g, 0, none⟩)) (by kernel_rfl) rfl (by omega) (by kernel_rfl) (by kernel_rfl) (by kernel_rfl) (fun _ _ _ h => h) (.inl ⟨by kernel_rfl, fun w' hw' => by obtain ⟨u0, u3⟩ := hw'; go_simp⟩) hS ?_
  simp only [Act.put, List.setIfInBounds_toArray, List.set_cons_zero, List.set_cons_succ]
  refine HL_take (i := 3) (.pointer (some ⟨g, 3, none⟩)) (by kernel_rfl) rfl (by omega) (by kernel_rfl) (by kernel_rfl) (by kernel_rfl) (fun _ _ _ h => h) (.inl ⟨by kernel_rfl, fun w' hw' => by obtain ⟨u0, u3⟩ := hw'; go_simp⟩) hS ?_
  simp only [Act.put, List.setIfInBounds_toArray, List.set_cons_zero, List.set_cons_succ]
  refine HL_take (i := 4) (.pointer (some ⟨g, 3, none⟩)) (by kernel_rfl) rfl (by omega) (by kernel_rfl) (by kernel_rfl) (by kernel_rfl) (fun _ _ _ h => h) (.inl ⟨by kernel_rfl, fun w' hw' => by obtain ⟨u0, u3⟩ := hw'; go_simp⟩) hS ?_
  simp only [Act.put, List.setIfInBounds_toArray, List.set_cons_zero, List.set_cons_succ]
  refine HL_take (i := 5) (.slice x n c) (by kernel_rfl) rfl (by omega) (by kernel_rfl) (by kernel_rfl) (by kernel_rfl) (fun _ _ _ h => h) (.inl ⟨by kernel_rfl, fun w' hw' => by obtain ⟨u0, u3⟩ := hw'; go_simp⟩) hS ?_
  simp only [Act.put, List.setIfInBounds_toArray, List.set_cons_zero, List.set_cons_succ]
  refine HL_take (i := 6) (.int .i64 (n : Nat)) (by kernel_rfl) rfl (by omega) (by kernel_rfl) (by kernel_rfl) (by kernel_rfl) (fun _ _ _ h => h) (.inl ⟨by kernel_rfl, fun w' hw' => by obtain ⟨u0, u3⟩ := hw'; go_simp⟩) hS ?_
  simp only [Act.put, List.setIfInBounds_toArray, List.set_cons_zero, List.set_cons_succ]
  refine HL_take (i := 7) (.func (.func 89) #[] #[.pointer (some ⟨w.heap.size, 0, none⟩)]) (by kernel_rfl) rfl (by omega) (by kernel_rfl) (by kernel_rfl) (by kernel_rfl) (fun _ _ _ h => h) (.inl ⟨by kernel_rfl, fun w' hw' => by obtain ⟨u0, u3⟩ := hw'; go_simp⟩) hS ?_
  simp only [Act.put, List.setIfInBounds_toArray, List.set_cons_zero, List.set_cons_succ]
  refine ⟨by kernel_rfl, ?_⟩
  simp only [List.drop_succ_cons, List.drop_zero]
  go_wp2_with fail
  refine HC.mono ?_
  rintro e w2 ⟨rfl, rfl⟩
  go_wp2_with fail
  go_end0
  exact ⟨rfl, hx1, hbut1⟩
end Go.Proofs.YtplmmamebfpcjaaGreatDoor
end
section
/- reader.rows, list 1: its contract. -/
namespace Go.Proofs.YtplmmamebfpcjaaGreatDoor
open Go.RowKit Go.Sort Go.Joins
set_option linter.unusedVariables false
set_option maxRecDepth 100000
set_option linter.unusedSimpArgs false
def RI1 (w : World) (g bx B b6 p : Nat) (s : RS) (l : List UInt8) (k : Nat) (wr : World) : Prop :=
  (∃ rows q v pv, manyP (spP l) k p = .ok (rows, q) ∧ Rx wr g { s with P := updP s.P 1 pv } (.ok q) ∧ RowS wr B v (rows.map Prod.fst) ∧ RowI wr B pv (rows.map Prod.snd) ∧ BoxR wr bx g ∧ But g B w wr ∧ BoxL wr b6 v) ∨
  (∃ e s', manyP (spP l) k p = .error e ∧ RErr wr g s' e ∧ SameF s s' ∧ BoxR wr bx g ∧ But g B w wr ∧ ∃ v l1, BoxL wr b6 v ∧ RowS wr B v l1)
set_option maxHeartbeats 4000000 in
theorem rows1_any (g bx B b6 p n : Nat) (v0 : Value) (s : RS) (l : List UInt8) (w : World) (hn : n ≤ 4096) (hbx : BoxR w bx g) (hbl : BoxL w b6 v0) (hr : Rx w g s (.ok p)) (hp0 : s.P 1 = .slice none 0 0) (hv0 : v0 = .slice none 0 0) (hWs : ∃ x m k, s.W = .slice x m k) (hF : Fl w s l) (hw : ∃ w0 : World, Below w0.heap.size w0 w ∧ Oc.BS w0 s.a l ∧ w0.heap.size ≤ g) (hB : B ≤ w.heap.size) (hgB : g < B) (hb6 : B ≤ b6) :
    Calls Tryz.prog 86 #[.pointer (some ⟨g, 0, none⟩), .int .i64 1, .int .i64 (n : Nat), .func (.func 91) #[] #[.pointer (some ⟨b6, 0, none⟩), .pointer (some ⟨bx, 0, none⟩)]] w fun e w' => e = .returned (.tuple #[]) ∧ RI1 w g bx B b6 p s l n w' := by
  have hFn : Hid (s.n = l.length) := hF.n
  have hFle := hF.le
  have hFlim := hF.lim
  have hw' : Hid (∃ w0 : World, Below w0.heap.size w0 w ∧ Oc.BS w0 s.a l ∧ w0.heap.size ≤ g) := hw
  have HFl : Hid (∀ wx, But g B w wx → Oc.BS wx s.a l) := fun wx hwx => by
    obtain ⟨w0, k1, k2, k3⟩ := hw
    exact k2.below (k1.trans (hwx.below (B' := w0.heap.size) (by have := k1.size; omega) k3))
  have hI0 : RI1 w g bx B b6 p s l 0 w := by
    refine .inl ⟨[], p, .slice none 0 0, .slice none 0 0, rfl, ?_, RowS.nil w B, RowI.nil w B, hbx, But.refl _ _ _, by rw [← hv0]; exact hbl⟩
    have e : { s with P := updP s.P 1 (.slice none 0 0) } = s := by
      obtain ⟨sa, sn, sc, sp, no, sW, sM, sA, sB, sC, sP, sbl⟩ := s
      simp only at hp0  ⊢
      have : updP sP 1 (.slice none 0 0) = sP := by
        funext i
        unfold updP
        by_cases h : i = 1
        · rw [if_pos h, h, hp0]
        · rw [if_neg h]
      rw [this]
    rw [e]; exact hr
  have HI0 : Hid (RI1 w g bx B b6 p s l 0 w) := hI0
  clear hI0 hr hbx hF hw hp0 hv0 hbl
  have HWs : Hid (∃ x m k, s.W = .slice x m k) := hWs
  clear hWs
  go_enter Tryz.func86, Tryz.ntmps86
  go_wp2_with fail
  obtain ⟨W0, hW0⟩ : ∃ W0, W0 = w := ⟨_, rfl⟩
  go_loopw [9] (fun i wr => ∃ k : Nat, k ≤ n ∧ i = .int .i64 (k : Nat) ∧ RI1 w g bx B b6 p s l k wr) (fun i _ => n - (intOf i).toNat)
  case atStart => exact ⟨0, Nat.zero_le _, rfl, HI0.out⟩
  case round =>
    obtain ⟨k, hk, rfl, hI⟩ := hrel
    clear HI0
    by_cases hlt : k < n
    · rcases hI with ⟨rows, q, v, pv, hm, hx, hrow, hpl, hbx, hbut, hbl⟩ | ⟨e, s', hm, hx, hsf, hbx, hbut, hble⟩
      · have hlen : rows.length = k := manyP_len hm
        have c2 : wr.cell? ⟨g, 2, none⟩ = some (.pointer none) := RB.c2 hx
        have c1 : wr.cell? ⟨g, 1, none⟩ = some (.int .i64 (q : Nat)) := RB.c1 hx
        have cp : wr.cell? ⟨g, 9, none⟩ = some pv := RB.c9 hx
        have hd : Below wr.heap.size wr wr.drew := (Below.refl _ _).drew
        have hBr : B ≤ wr.heap.size := Nat.le_trans hB hbut.size
        have HAPP := appI_step wr wr.drew g B q { s with P := updP s.P 1 pv } pv (rows.map Prod.snd) (Rx.below hx hd) (hpl.kt (KT.of_below hd)) (But.of_below (hd.mono hBr)) (fun T _ => KT.of_below hd) (Nat.le_trans hBr hd.size) (by simp; omega)
        have hne : bx ≠ g := hbx.ne hx
        have HX : Hid (Rx wr g { s with P := updP s.P 1 pv } (.ok q)) := hx
        have HROW : Hid (RowS wr B v (rows.map Prod.fst)) := hrow
        have HBX : Hid (BoxR wr bx g) := hbx
        have HBUT : Hid (But g B w wr) := hbut
        have HBL : Hid (BoxL wr b6 v) := hbl
        clear hx hrow hpl hbx hbut hbl
        go_wp2_with fail
        refine wp_region_heldtail 16 (fun w' => w'.cell? ⟨g, 9, none⟩ = some pv ∧ w'.cell? ⟨g, 1, none⟩ = some (.int .i64 (q : Nat))) (by kernel_rfl) (by kernel_rfl) ?_
        have hS : (wr.drew.cell? ⟨g, 9, none⟩ = some pv ∧ wr.drew.cell? ⟨g, 1, none⟩ = some (.int .i64 (q : Nat))) := ⟨by simpa using cp, by simpa using c1⟩
        refine HL_take (i := 0) (.pointer (some ⟨g, 0, none⟩)) (by kernel_rfl) rfl (by omega) (by kernel_rfl) (by kernel_rfl) (by kernel_rfl) (fun _ _ _ h => h) (.inl ⟨by kernel_rfl, fun w' hw' => by obtain ⟨u0, u1⟩ := hw'; go_simp⟩) hS ?_
        simp only [Act.put, List.setIfInBounds_toArray, List.set_cons_zero, List.set_cons_succ]
        refine HL_take (i := 1) (.int .i64 1) (by kernel_rfl) rfl (by omega) (by kernel_rfl) (by kernel_rfl) (by kernel_rfl) (fun _ _ _ h => h) (.inl ⟨by kernel_rfl, fun w' hw' => by obtain ⟨u0, u1⟩ := hw'; go_simp⟩) hS ?_
        simp only [Act.put, List.setIfInBounds_toArray, List.set_cons_zero, List.set_cons_succ]
        refine HL_take (i := 2) (.pointer (some ⟨g, 0, none⟩)) (by kernel_rfl) rfl (by omega) (by kernel_rfl) (by kernel_rfl) (by kernel_rfl) (fun _ _ _ h => h) (.inl ⟨by kernel_rfl, fun w' hw' => by obtain ⟨u0, u1⟩ := hw'; go_simp⟩) hS ?_
        simp only [Act.put, List.setIfInBounds_toArray, List.set_cons_zero, List.set_cons_succ]
        refine HL_take (i := 3) (.int .i64 1) (by kernel_rfl) rfl (by omega) (by kernel_rfl) (by kernel_rfl) (by kernel_rfl) (fun _ _ _ h => h) (.inl ⟨by kernel_rfl, fun w' hw' => by obtain ⟨u0, u1⟩ := hw'; go_simp⟩) hS ?_
        simp only [Act.put, List.setIfInBounds_toArray, List.set_cons_zero, List.set_cons_succ]
        refine HL_take (i := 4) (.pointer (some ⟨g, 0, none⟩)) (by kernel_rfl) rfl (by omega) (by kernel_rfl) (by kernel_rfl) (by kernel_rfl) (fun _ _ _ h => h) (.inl ⟨by kernel_rfl, fun w' hw' => by obtain ⟨u0, u1⟩ := hw'; go_simp⟩) hS ?_
        simp only [Act.put, List.setIfInBounds_toArray, List.set_cons_zero, List.set_cons_succ]
        refine HL_take (i := 5) (.pointer (some ⟨g, 8, none⟩)) (by kernel_rfl) rfl (by omega) (by kernel_rfl) (by kernel_rfl) (by kernel_rfl) (fun _ _ _ h => h) (.inl ⟨by kernel_rfl, fun w' hw' => by obtain ⟨u0, u1⟩ := hw'; go_simp⟩) hS ?_
        simp only [Act.put, List.setIfInBounds_toArray, List.set_cons_zero, List.set_cons_succ]
        refine HL_take (i := 6) (.pointer (some ⟨g, 9, none⟩)) (by kernel_rfl) rfl (by omega) (by kernel_rfl) (by kernel_rfl) (by kernel_rfl) (fun _ _ _ h => h) (.inl ⟨by kernel_rfl, fun w' hw' => by obtain ⟨u0, u1⟩ := hw'; go_simp⟩) hS ?_
        simp only [Act.put, List.setIfInBounds_toArray, List.set_cons_zero, List.set_cons_succ]
        refine HL_take (i := 7) (pv) (by kernel_rfl) rfl (by omega) (by kernel_rfl) (by kernel_rfl) (by kernel_rfl) (fun _ _ _ h => h) (.inl ⟨by kernel_rfl, fun w' hw' => by obtain ⟨u0, u1⟩ := hw'; go_simp⟩) hS ?_
        simp only [Act.put, List.setIfInBounds_toArray, List.set_cons_zero, List.set_cons_succ]
        refine HL_take (i := 8) (.pointer (some ⟨g, 0, none⟩)) (by kernel_rfl) rfl (by omega) (by kernel_rfl) (by kernel_rfl) (by kernel_rfl) (fun _ _ _ h => h) (.inl ⟨by kernel_rfl, fun w' hw' => by obtain ⟨u0, u1⟩ := hw'; go_simp⟩) hS ?_
        simp only [Act.put, List.setIfInBounds_toArray, List.set_cons_zero, List.set_cons_succ]
        refine HL_take (i := 9) (.pointer (some ⟨g, 0, none⟩)) (by kernel_rfl) rfl (by omega) (by kernel_rfl) (by kernel_rfl) (by kernel_rfl) (fun _ _ _ h => h) (.inl ⟨by kernel_rfl, fun w' hw' => by obtain ⟨u0, u1⟩ := hw'; go_simp⟩) hS ?_
        simp only [Act.put, List.setIfInBounds_toArray, List.set_cons_zero, List.set_cons_succ]
        refine HL_take (i := 10) (.pointer (some ⟨g, 1, none⟩)) (by kernel_rfl) rfl (by omega) (by kernel_rfl) (by kernel_rfl) (by kernel_rfl) (fun _ _ _ h => h) (.inl ⟨by kernel_rfl, fun w' hw' => by obtain ⟨u0, u1⟩ := hw'; go_simp⟩) hS ?_
        simp only [Act.put, List.setIfInBounds_toArray, List.set_cons_zero, List.set_cons_succ]
        refine HL_take (i := 11) (.int .i64 (q : Nat)) (by kernel_rfl) rfl (by omega) (by kernel_rfl) (by kernel_rfl) (by kernel_rfl) (fun _ _ _ h => h) (.inl ⟨by kernel_rfl, fun w' hw' => by obtain ⟨u0, u1⟩ := hw'; go_simp⟩) hS ?_
        simp only [Act.put, List.setIfInBounds_toArray, List.set_cons_zero, List.set_cons_succ]
        refine HL_take (i := 14) (.pointer (some ⟨g, 0, none⟩)) (by kernel_rfl) rfl (by omega) (by kernel_rfl) (by kernel_rfl) (by kernel_rfl) (fun _ _ _ h => h) (.inl ⟨by kernel_rfl, fun w' hw' => by obtain ⟨u0, u1⟩ := hw'; go_simp⟩) hS ?_
        simp only [Act.put, List.setIfInBounds_toArray, List.set_cons_zero, List.set_cons_succ]
        refine HL_take (i := 15) (.pointer (some ⟨g, 8, none⟩)) (by kernel_rfl) rfl (by omega) (by kernel_rfl) (by kernel_rfl) (by kernel_rfl) (fun _ _ _ h => h) (.inl ⟨by kernel_rfl, fun w' hw' => by obtain ⟨u0, u1⟩ := hw'; go_simp⟩) hS ?_
        simp only [Act.put, List.setIfInBounds_toArray, List.set_cons_zero, List.set_cons_succ]
        refine HL_one (i := 12) rfl (by omega) (by kernel_rfl) rfl ?_
        refine wp_value (v := .slice (some ⟨wr.heap.size, 0, none⟩) 1 1) (w' := wr.drew.alloc (.cells #[.int .i64 (q : Nat)] 3)) (by go_simp) ?_
        refine ⟨⟨cell_new hS.1 _, cell_new hS.2 _⟩, ?_⟩
        simp only [Act.put, List.setIfInBounds_toArray, List.set_cons_zero, List.set_cons_succ]
        refine HL_one (i := 13) rfl (by omega) (by kernel_rfl) rfl ?_
        refine wp_append (.tmp 23) (.tmp 28) 52 52 (by kernel_rfl) pv (.slice (some ⟨wr.heap.size, 0, none⟩) 1 1) (by go_simp) (by go_simp) (AppI wr g B q { s with P := updP s.P 1 pv } (rows.map Prod.snd ++ [q])) (by exact HAPP) ?_
        rintro v5 w5 ⟨r1, r2, r3, r4, gg, cc, rfl⟩
        have f3 := r1.free 9
        have y1 : w5.cell? ⟨g, 1, none⟩ = some (.int .i64 (q : Nat)) := RB.c1 r1
        have e3 : w5.cell? ⟨g, 9, none⟩ = some pv := RB.c9 r1
        refine ⟨⟨e3, y1⟩, ?_⟩
        simp only [Act.put, List.setIfInBounds_toArray, List.set_cons_zero, List.set_cons_succ]
        refine ⟨by kernel_rfl, ?_⟩
        simp only [List.drop_succ_cons, List.drop_zero]
        clear HAPP hS c2 c1 cp
        have R1 : Hid (Rx w5 g { s with P := updP s.P 1 pv } (.ok q)) := r1
        have R2 : Hid (RowI w5 B (.slice (some ⟨gg, 0, none⟩) (rows.map Prod.snd ++ [q]).length cc) (rows.map Prod.snd ++ [q])) := r2
        have R3 : Hid (But g B wr w5) := r3
        have R4 : Hid (∀ T, T ≠ 3 → KT T wr w5) := r4
        clear r1 r2 r3 r4 y1
        go_wp2_with fail
        obtain ⟨u5, hu5⟩ : ∃ u5 : Value, u5 = .slice (some ⟨gg, 0, none⟩) (rows.map Prod.snd ++ [q]).length cc := ⟨_, rfl⟩
        have hu5' : (Value.slice (some ⟨gg, 0, none⟩) (rows.length + 1) cc) = u5 := by rw [hu5]; simp
        rw [← hu5] at R2
        first | rw [hu5'] | (rw [show rows.length = k from hlen] at hu5'; rw [hu5']) | skip
        obtain ⟨w6, hw6⟩ : ∃ w6, w6 = w5.setCell ⟨g, 9, none⟩ u5 := ⟨_, rfl⟩
        rw [← hw6]
        have x6 : Rx w6 g { s with P := updP s.P 1 u5 } (.ok q) := by
          rw [hw6]
          have := R1.out.setPk (k := 1) (by omega) u5
          simp only [updP_same] at this
          exact this
        have b6' : But g B w w6 := by rw [hw6]; exact (HBUT.out.trans R3.out).setCell 9 u5
        have k6 : ∀ T, T ≠ 3 → T ≠ 88 → KT T wr w6 := fun T h1 h2 => by rw [hw6]; exact (R4.out T h1).trans (R1.out.setkt h2 9 u5)
        have pl6 : RowI w6 B u5 (rows.map Prod.snd ++ [q]) := by rw [hw6]; exact R2.out.kt (R1.out.setkt (T := 3) (by decide) 9 u5)
        have row6 : RowS w6 B v (rows.map Prod.fst) := HROW.out.kt (k6 _ (by decide) (by decide))
        have bx6 : BoxR w6 bx g := HBX.out.kt (k6 _ (by decide) (by decide))
        have bl6 : BoxL w6 b6 v := HBL.out.kt (k6 _ (by decide) (by decide))
        refine (spansC_any g bx B b6 q v { s with P := updP s.P 1 u5 } l (rows.map Prod.fst) w6 bx6 bl6 x6 row6 ⟨hFn.out, hFle, hFlim, HFl.out w6 b6'⟩ (by obtain ⟨w0, q1, q2, q3⟩ := hw'.out; exact ⟨w0, q1.trans (b6'.below (B' := w0.heap.size) (by have := q1.size; omega) q3), q2, q3⟩) (Nat.le_trans hB b6'.size) hgB hb6 (by simp; omega)).mono ?_
        rintro e w7 ⟨rfl, ⟨c1, c2, c3⟩, t, v7, x', hst, x7, bl7, row7⟩
        have b7 : But g B w w7 := b6'.trans c1
        have hI7 : RI1 w g bx B b6 p s l (k + 1) w7 := by
          rcases many_step hm hst with ⟨r, rfl, hm2⟩ | ⟨e, rfl, hm2⟩
          · exact .inl ⟨rows ++ [(t, q)], r, v7, u5, hm2, x7, (by rw [List.map_append]; exact row7), (by rw [List.map_append]; exact pl6.kt c2), c3, b7, bl7⟩
          · exact .inr ⟨e, _, hm2, x7, ⟨rfl, rfl, rfl, HWs.out⟩, c3, b7, v7, _, bl7, row7⟩
        have HI7 : Hid (RI1 w g bx B b6 p s l (k + 1) w7) := hI7
        clear hI7 x6 k6 pl6 row6 bx6 c1 c2 c3 hst x7 row7 b7 hw6 bl6 bl7
        go_wp2_with fail
        go_roundw
        case rel => exact ⟨k + 1, by omega, by go_num, HI7.out⟩
        case measure => simp only [intOf]; omega
      · have HE : Hid (RErr wr g s' e) := hx
        obtain ⟨p1, N, k1, k3, k4⟩ := hx
        have c2 := k1.c2
        clear k1 k4
        go_wp2_with fail
        exact bodyPost_ret (v := .tuple #[]) (results_none rfl _ _ _) rfl ⟨rfl, .inr ⟨e, s', manyP_stop hm n (by omega), HE.out, hsf, hbx, hbut, hble⟩⟩
    · have hkn : k = n := by omega
      rw [hkn] at hI
      have HI : Hid (RI1 w g bx B b6 p s l n wr) := hI
      clear hI
      go_wp2_with fail
      go_end0
      exact ⟨rfl, HI.out⟩
end Go.Proofs.YtplmmamebfpcjaaGreatDoor
end
