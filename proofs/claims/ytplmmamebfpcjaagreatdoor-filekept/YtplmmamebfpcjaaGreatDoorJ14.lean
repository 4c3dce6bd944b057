import Derived.Test.YtplmmamebfpcjaaGreatDoorJ12
import Derived.Test.YtplmmamebfpcjaaGreatDoorJ13
section
/- reader.rows, list 2: its contract. -/
namespace Go.Proofs.YtplmmamebfpcjaaGreatDoor
open Go.RowKit Go.Sort Go.Joins
set_option linter.unusedVariables false
set_option maxRecDepth 100000
set_option linter.unusedSimpArgs false
def RI2 (w : World) (g bx B b6 p : Nat) (s : RS) (l : List UInt8) (k : Nat) (wr : World) : Prop :=
  (∃ rows q v pv, manyP (spP l) k p = .ok (rows, q) ∧ Rx wr g { s with P := updP s.P 2 pv } (.ok q) ∧ RowS wr B v (rows.map Prod.fst) ∧ RowI wr B pv (rows.map Prod.snd) ∧ BoxR wr bx g ∧ But g B w wr ∧ BoxL wr b6 v) ∨
  (∃ e s', manyP (spP l) k p = .error e ∧ RErr wr g s' e ∧ SameF s s' ∧ BoxR wr bx g ∧ But g B w wr ∧ ∃ v l1, BoxL wr b6 v ∧ RowS wr B v l1)
set_option maxHeartbeats 4000000 in
theorem rows2_any (g bx B b6 p n : Nat) (v0 : Value) (s : RS) (l : List UInt8) (w : World) (hn : n ≤ 4096) (hbx : BoxR w bx g) (hbl : BoxL w b6 v0) (hr : Rx w g s (.ok p)) (hp0 : s.P 2 = .slice none 0 0) (hv0 : v0 = .slice none 0 0) (hWs : ∃ x m k, s.W = .slice x m k) (hF : Fl w s l) (hw : ∃ w0 : World, Below w0.heap.size w0 w ∧ Oc.BS w0 s.a l ∧ w0.heap.size ≤ g) (hB : B ≤ w.heap.size) (hgB : g < B) (hb6 : B ≤ b6) :
    Calls Tryz.prog 86 #[.pointer (some ⟨g, 0, none⟩), .int .i64 2, .int .i64 (n : Nat), .func (.func 91) #[] #[.pointer (some ⟨b6, 0, none⟩), .pointer (some ⟨bx, 0, none⟩)]] w fun e w' => e = .returned (.tuple #[]) ∧ RI2 w g bx B b6 p s l n w' := by
  have hFn : Hid (s.n = l.length) := hF.n
  have hFle := hF.le
  have hFlim := hF.lim
  have hw' : Hid (∃ w0 : World, Below w0.heap.size w0 w ∧ Oc.BS w0 s.a l ∧ w0.heap.size ≤ g) := hw
  have HFl : Hid (∀ wx, But g B w wx → Oc.BS wx s.a l) := fun wx hwx => by
    obtain ⟨w0, k1, k2, k3⟩ := hw
    exact k2.below (k1.trans (hwx.below (B' := w0.heap.size) (by have := k1.size; omega) k3))
  have hI0 : RI2 w g bx B b6 p s l 0 w := by
    refine .inl ⟨[], p, .slice none 0 0, .slice none 0 0, rfl, ?_, RowS.nil w B, RowI.nil w B, hbx, But.refl _ _ _, by rw [← hv0]; exact hbl⟩
    have e : { s with P := updP s.P 2 (.slice none 0 0) } = s := by
      obtain ⟨sa, sn, sc, sp, no, sW, sM, sA, sB, sC, sP, sbl⟩ := s
      simp only at hp0  ⊢
      have : updP sP 2 (.slice none 0 0) = sP := by
        funext i
        unfold updP
        by_cases h : i = 2
        · rw [if_pos h, h, hp0]
        · rw [if_neg h]
      rw [this]
    rw [e]; exact hr
  have HI0 : Hid (RI2 w g bx B b6 p s l 0 w) := hI0
  clear hI0 hr hbx hF hw hp0 hv0 hbl
  have HWs : Hid (∃ x m k, s.W = .slice x m k) := hWs
  clear hWs
  go_enter Tryz.func86, Tryz.ntmps86
  go_wp2_with fail
  obtain ⟨W0, hW0⟩ : ∃ W0, W0 = w := ⟨_, rfl⟩
  go_loopw [9] (fun i wr => ∃ k : Nat, k ≤ n ∧ i = .int .i64 (k : Nat) ∧ RI2 w g bx B b6 p s l k wr) (fun i _ => n - (intOf i).toNat)
  case atStart => exact ⟨0, Nat.zero_le _, rfl, HI0.out⟩
  case round =>
    obtain ⟨k, hk, rfl, hI⟩ := hrel
    clear HI0
    by_cases hlt : k < n
    · rcases hI with ⟨rows, q, v, pv, hm, hx, hrow, hpl, hbx, hbut, hbl⟩ | ⟨e, s', hm, hx, hsf, hbx, hbut, hble⟩
      · have hlen : rows.length = k := manyP_len hm
        have c2 : wr.cell? ⟨g, 2, none⟩ = some (.pointer none) := RB.c2 hx
        have c1 : wr.cell? ⟨g, 1, none⟩ = some (.int .i64 (q : Nat)) := RB.c1 hx
        have cp : wr.cell? ⟨g, 10, none⟩ = some pv := RB.c10 hx
        have hd : Below wr.heap.size wr wr.drew := (Below.refl _ _).drew
        have hBr : B ≤ wr.heap.size := Nat.le_trans hB hbut.size
        have HAPP := appI_step wr wr.drew g B q { s with P := updP s.P 2 pv } pv (rows.map Prod.snd) (Rx.below hx hd) (hpl.kt (KT.of_below hd)) (But.of_below (hd.mono hBr)) (fun T _ => KT.of_below hd) (Nat.le_trans hBr hd.size) (by simp; omega)
        have hne : bx ≠ g := hbx.ne hx
        have HX : Hid (Rx wr g { s with P := updP s.P 2 pv } (.ok q)) := hx
        have HROW : Hid (RowS wr B v (rows.map Prod.fst)) := hrow
        have HBX : Hid (BoxR wr bx g) := hbx
        have HBUT : Hid (But g B w wr) := hbut
        have HBL : Hid (BoxL wr b6 v) := hbl
        clear hx hrow hpl hbx hbut hbl
        go_wp2_with fail
        refine wp_region_heldtail 16 (fun w' => w'.cell? ⟨g, 10, none⟩ = some pv ∧ w'.cell? ⟨g, 1, none⟩ = some (.int .i64 (q : Nat))) (by kernel_rfl) (by kernel_rfl) ?_
        have hS : (wr.drew.cell? ⟨g, 10, none⟩ = some pv ∧ wr.drew.cell? ⟨g, 1, none⟩ = some (.int .i64 (q : Nat))) := ⟨by simpa using cp, by simpa using c1⟩
        refine HL_take (i := 0) (.pointer (some ⟨g, 0, none⟩)) (by kernel_rfl) rfl (by omega) (by kernel_rfl) (by kernel_rfl) (by kernel_rfl) (fun _ _ _ h => h) (.inl ⟨by kernel_rfl, fun w' hw' => by obtain ⟨u0, u1⟩ := hw'; go_simp⟩) hS ?_
        simp only [Act.put, List.setIfInBounds_toArray, List.set_cons_zero, List.set_cons_succ]
        refine HL_take (i := 1) (.int .i64 2) (by kernel_rfl) rfl (by omega) (by kernel_rfl) (by kernel_rfl) (by kernel_rfl) (fun _ _ _ h => h) (.inl ⟨by kernel_rfl, fun w' hw' => by obtain ⟨u0, u1⟩ := hw'; go_simp⟩) hS ?_
        simp only [Act.put, List.setIfInBounds_toArray, List.set_cons_zero, List.set_cons_succ]
        refine HL_take (i := 2) (.pointer (some ⟨g, 0, none⟩)) (by kernel_rfl) rfl (by omega) (by kernel_rfl) (by kernel_rfl) (by kernel_rfl) (fun _ _ _ h => h) (.inl ⟨by kernel_rfl, fun w' hw' => by obtain ⟨u0, u1⟩ := hw'; go_simp⟩) hS ?_
        simp only [Act.put, List.setIfInBounds_toArray, List.set_cons_zero, List.set_cons_succ]
        refine HL_take (i := 3) (.int .i64 2) (by kernel_rfl) rfl (by omega) (by kernel_rfl) (by kernel_rfl) (by kernel_rfl) (fun _ _ _ h => h) (.inl ⟨by kernel_rfl, fun w' hw' => by obtain ⟨u0, u1⟩ := hw'; go_simp⟩) hS ?_
        simp only [Act.put, List.setIfInBounds_toArray, List.set_cons_zero, List.set_cons_succ]
        refine HL_take (i := 4) (.pointer (some ⟨g, 0, none⟩)) (by kernel_rfl) rfl (by omega) (by kernel_rfl) (by kernel_rfl) (by kernel_rfl) (fun _ _ _ h => h) (.inl ⟨by kernel_rfl, fun w' hw' => by obtain ⟨u0, u1⟩ := hw'; go_simp⟩) hS ?_
        simp only [Act.put, List.setIfInBounds_toArray, List.set_cons_zero, List.set_cons_succ]
        refine HL_take (i := 5) (.pointer (some ⟨g, 8, none⟩)) (by kernel_rfl) rfl (by omega) (by kernel_rfl) (by kernel_rfl) (by kernel_rfl) (fun _ _ _ h => h) (.inl ⟨by kernel_rfl, fun w' hw' => by obtain ⟨u0, u1⟩ := hw'; go_simp⟩) hS ?_
        simp only [Act.put, List.setIfInBounds_toArray, List.set_cons_zero, List.set_cons_succ]
        refine HL_take (i := 6) (.pointer (some ⟨g, 10, none⟩)) (by kernel_rfl) rfl (by omega) (by kernel_rfl) (by kernel_rfl) (by kernel_rfl) (fun _ _ _ h => h) (.inl ⟨by kernel_rfl, fun w' hw' => by obtain ⟨u0, u1⟩ := hw'; go_simp⟩) hS ?_
        simp only [Act.put, List.setIfInBounds_toArray, List.set_cons_zero, List.set_cons_succ]
        refine HL_take (i := 7) (pv) (by kernel_rfl) rfl (by omega) (by kernel_rfl) (by kernel_rfl) (by kernel_rfl) (fun _ _ _ h => h) (.inl ⟨by kernel_rfl, fun w' hw' => by obtain ⟨u0, u1⟩ := hw'; go_simp⟩) hS ?_
        simp only [Act.put, List.setIfInBounds_toArray, List.set_cons_zero, List.set_cons_succ]
        refine HL_take (i := 8) (.pointer (some ⟨g, 0, none⟩)) (by kernel_rfl) rfl (by omega) (by kernel_rfl) (by kernel_rfl) (by kernel_rfl) (fun _ _ _ h => h) (.inl ⟨by kernel_rfl, fun w' hw' => by obtain ⟨u0, u1⟩ := hw'; go_simp⟩) hS ?_
        simp only [Act.put, List.setIfInBounds_toArray, List.set_cons_zero, List.set_cons_succ]
        refine HL_take (i := 9) (.pointer (some ⟨g, 0, none⟩)) (by kernel_rfl) rfl (by omega) (by kernel_rfl) (by kernel_rfl) (by kernel_rfl) (fun _ _ _ h => h) (.inl ⟨by kernel_rfl, fun w' hw' => by obtain ⟨u0, u1⟩ := hw'; go_simp⟩) hS ?_
        simp only [Act.put, List.setIfInBounds_toArray, List.set_cons_zero, List.set_cons_succ]
        refine HL_take (i := 10) (.pointer (some ⟨g, 1, none⟩)) (by kernel_rfl) rfl (by omega) (by kernel_rfl) (by kernel_rfl) (by kernel_rfl) (fun _ _ _ h => h) (.inl ⟨by kernel_rfl, fun w' hw' => by obtain ⟨u0, u1⟩ := hw'; go_simp⟩) hS ?_
        simp only [Act.put, List.setIfInBounds_toArray, List.set_cons_zero, List.set_cons_succ]
        refine HL_take (i := 11) (.int .i64 (q : Nat)) (by kernel_rfl) rfl (by omega) (by kernel_rfl) (by kernel_rfl) (by kernel_rfl) (fun _ _ _ h => h) (.inl ⟨by kernel_rfl, fun w' hw' => by obtain ⟨u0, u1⟩ := hw'; go_simp⟩) hS ?_
        simp only [Act.put, List.setIfInBounds_toArray, List.set_cons_zero, List.set_cons_succ]
        refine HL_take (i := 14) (.pointer (some ⟨g, 0, none⟩)) (by kernel_rfl) rfl (by omega) (by kernel_rfl) (by kernel_rfl) (by kernel_rfl) (fun _ _ _ h => h) (.inl ⟨by kernel_rfl, fun w' hw' => by obtain ⟨u0, u1⟩ := hw'; go_simp⟩) hS ?_
        simp only [Act.put, List.setIfInBounds_toArray, List.set_cons_zero, List.set_cons_succ]
        refine HL_take (i := 15) (.pointer (some ⟨g, 8, none⟩)) (by kernel_rfl) rfl (by omega) (by kernel_rfl) (by kernel_rfl) (by kernel_rfl) (fun _ _ _ h => h) (.inl ⟨by kernel_rfl, fun w' hw' => by obtain ⟨u0, u1⟩ := hw'; go_simp⟩) hS ?_
        simp only [Act.put, List.setIfInBounds_toArray, List.set_cons_zero, List.set_cons_succ]
        refine HL_one (i := 12) rfl (by omega) (by kernel_rfl) rfl ?_
        refine wp_value (v := .slice (some ⟨wr.heap.size, 0, none⟩) 1 1) (w' := wr.drew.alloc (.cells #[.int .i64 (q : Nat)] 3)) (by go_simp) ?_
        refine ⟨⟨cell_new hS.1 _, cell_new hS.2 _⟩, ?_⟩
        simp only [Act.put, List.setIfInBounds_toArray, List.set_cons_zero, List.set_cons_succ]
        refine HL_one (i := 13) rfl (by omega) (by kernel_rfl) rfl ?_
        refine wp_append (.tmp 23) (.tmp 28) 52 52 (by kernel_rfl) pv (.slice (some ⟨wr.heap.size, 0, none⟩) 1 1) (by go_simp) (by go_simp) (AppI wr g B q { s with P := updP s.P 2 pv } (rows.map Prod.snd ++ [q])) (by exact HAPP) ?_
        rintro v5 w5 ⟨r1, r2, r3, r4, gg, cc, rfl⟩
        have f3 := r1.free 10
        have y1 : w5.cell? ⟨g, 1, none⟩ = some (.int .i64 (q : Nat)) := RB.c1 r1
        have e3 : w5.cell? ⟨g, 10, none⟩ = some pv := RB.c10 r1
        refine ⟨⟨e3, y1⟩, ?_⟩
        simp only [Act.put, List.setIfInBounds_toArray, List.set_cons_zero, List.set_cons_succ]
        refine ⟨by kernel_rfl, ?_⟩
        simp only [List.drop_succ_cons, List.drop_zero]
        clear HAPP hS c2 c1 cp
        have R1 : Hid (Rx w5 g { s with P := updP s.P 2 pv } (.ok q)) := r1
        have R2 : Hid (RowI w5 B (.slice (some ⟨gg, 0, none⟩) (rows.map Prod.snd ++ [q]).length cc) (rows.map Prod.snd ++ [q])) := r2
        have R3 : Hid (But g B wr w5) := r3
        have R4 : Hid (∀ T, T ≠ 3 → KT T wr w5) := r4
        clear r1 r2 r3 r4 y1
        go_wp2_with fail
        obtain ⟨u5, hu5⟩ : ∃ u5 : Value, u5 = .slice (some ⟨gg, 0, none⟩) (rows.map Prod.snd ++ [q]).length cc := ⟨_, rfl⟩
        have hu5' : (Value.slice (some ⟨gg, 0, none⟩) (rows.length + 1) cc) = u5 := by rw [hu5]; simp
        rw [← hu5] at R2
        first | rw [hu5'] | (rw [show rows.length = k from hlen] at hu5'; rw [hu5']) | skip
        obtain ⟨w6, hw6⟩ : ∃ w6, w6 = w5.setCell ⟨g, 10, none⟩ u5 := ⟨_, rfl⟩
        rw [← hw6]
        have x6 : Rx w6 g { s with P := updP s.P 2 u5 } (.ok q) := by
          rw [hw6]
          have := R1.out.setPk (k := 2) (by omega) u5
          simp only [updP_same] at this
          exact this
        have b6' : But g B w w6 := by rw [hw6]; exact (HBUT.out.trans R3.out).setCell 10 u5
        have k6 : ∀ T, T ≠ 3 → T ≠ 88 → KT T wr w6 := fun T h1 h2 => by rw [hw6]; exact (R4.out T h1).trans (R1.out.setkt h2 10 u5)
        have pl6 : RowI w6 B u5 (rows.map Prod.snd ++ [q]) := by rw [hw6]; exact R2.out.kt (R1.out.setkt (T := 3) (by decide) 10 u5)
        have row6 : RowS w6 B v (rows.map Prod.fst) := HROW.out.kt (k6 _ (by decide) (by decide))
        have bx6 : BoxR w6 bx g := HBX.out.kt (k6 _ (by decide) (by decide))
        have bl6 : BoxL w6 b6 v := HBL.out.kt (k6 _ (by decide) (by decide))
        refine (spansC_any g bx B b6 q v { s with P := updP s.P 2 u5 } l (rows.map Prod.fst) w6 bx6 bl6 x6 row6 ⟨hFn.out, hFle, hFlim, HFl.out w6 b6'⟩ (by obtain ⟨w0, q1, q2, q3⟩ := hw'.out; exact ⟨w0, q1.trans (b6'.below (B' := w0.heap.size) (by have := q1.size; omega) q3), q2, q3⟩) (Nat.le_trans hB b6'.size) hgB hb6 (by simp; omega)).mono ?_
        rintro e w7 ⟨rfl, ⟨c1, c2, c3⟩, t, v7, x', hst, x7, bl7, row7⟩
        have b7 : But g B w w7 := b6'.trans c1
        have hI7 : RI2 w g bx B b6 p s l (k + 1) w7 := by
          rcases many_step hm hst with ⟨r, rfl, hm2⟩ | ⟨e, rfl, hm2⟩
          · exact .inl ⟨rows ++ [(t, q)], r, v7, u5, hm2, x7, (by rw [List.map_append]; exact row7), (by rw [List.map_append]; exact pl6.kt c2), c3, b7, bl7⟩
          · exact .inr ⟨e, _, hm2, x7, ⟨rfl, rfl, rfl, HWs.out⟩, c3, b7, v7, _, bl7, row7⟩
        have HI7 : Hid (RI2 w g bx B b6 p s l (k + 1) w7) := hI7
        clear hI7 x6 k6 pl6 row6 bx6 c1 c2 c3 hst x7 row7 b7 hw6 bl6 bl7
        go_wp2_with fail
        go_roundw
        case rel => exact ⟨k + 1, by omega, by go_num, HI7.out⟩
        case measure => simp only [intOf]; omega
      · have HE : Hid (RErr wr g s' e) := hx
        obtain ⟨p1, N, k1, k3, k4⟩ := hx
        have c2 := k1.c2
        clear k1 k4
        go_wp2_with fail
        exact bodyPost_ret (v := .tuple #[]) (results_none rfl _ _ _) rfl ⟨rfl, .inr ⟨e, s', manyP_stop hm n (by omega), HE.out, hsf, hbx, hbut, hble⟩⟩
    · have hkn : k = n := by omega
      rw [hkn] at hI
      have HI : Hid (RI2 w g bx B b6 p s l n wr) := hI
      clear hI
      go_wp2_with fail
      go_end0
      exact ⟨rfl, HI.out⟩
end Go.Proofs.YtplmmamebfpcjaaGreatDoor
end
section
/- reader.rows, list 3: its contract. -/
namespace Go.Proofs.YtplmmamebfpcjaaGreatDoor
open Go.RowKit Go.Sort Go.Joins
set_option linter.unusedVariables false
set_option maxRecDepth 100000
set_option linter.unusedSimpArgs false
def RI3 (w : World) (g bx B b6 p : Nat) (s : RS) (l : List UInt8) (k : Nat) (wr : World) : Prop :=
  (∃ rows q v pv, manyP (spP l) k p = .ok (rows, q) ∧ Rx wr g { s with P := updP s.P 3 pv } (.ok q) ∧ RowS wr B v (rows.map Prod.fst) ∧ RowI wr B pv (rows.map Prod.snd) ∧ BoxR wr bx g ∧ But g B w wr ∧ BoxL wr b6 v) ∨
  (∃ e s', manyP (spP l) k p = .error e ∧ RErr wr g s' e ∧ SameF s s' ∧ BoxR wr bx g ∧ But g B w wr ∧ ∃ v l1, BoxL wr b6 v ∧ RowS wr B v l1)
set_option maxHeartbeats 4000000 in
theorem rows3_any (g bx B b6 p n : Nat) (v0 : Value) (s : RS) (l : List UInt8) (w : World) (hn : n ≤ 4096) (hbx : BoxR w bx g) (hbl : BoxL w b6 v0) (hr : Rx w g s (.ok p)) (hp0 : s.P 3 = .slice none 0 0) (hv0 : v0 = .slice none 0 0) (hWs : ∃ x m k, s.W = .slice x m k) (hF : Fl w s l) (hw : ∃ w0 : World, Below w0.heap.size w0 w ∧ Oc.BS w0 s.a l ∧ w0.heap.size ≤ g) (hB : B ≤ w.heap.size) (hgB : g < B) (hb6 : B ≤ b6) :
    Calls Tryz.prog 86 #[.pointer (some ⟨g, 0, none⟩), .int .i64 3, .int .i64 (n : Nat), .func (.func 91) #[] #[.pointer (some ⟨b6, 0, none⟩), .pointer (some ⟨bx, 0, none⟩)]] w fun e w' => e = .returned (.tuple #[]) ∧ RI3 w g bx B b6 p s l n w' := by
  have hFn : Hid (s.n = l.length) := hF.n
  have hFle := hF.le
  have hFlim := hF.lim
  have hw' : Hid (∃ w0 : World, Below w0.heap.size w0 w ∧ Oc.BS w0 s.a l ∧ w0.heap.size ≤ g) := hw
  have HFl : Hid (∀ wx, But g B w wx → Oc.BS wx s.a l) := fun wx hwx => by
    obtain ⟨w0, k1, k2, k3⟩ := hw
    exact k2.below (k1.trans (hwx.below (B' := w0.heap.size) (by have := k1.size; omega) k3))
  have hI0 : RI3 w g bx B b6 p s l 0 w := by
    refine .inl ⟨[], p, .slice none 0 0, .slice none 0 0, rfl, ?_, RowS.nil w B, RowI.nil w B, hbx, But.refl _ _ _, by rw [← hv0]; exact hbl⟩
    have e : { s with P := updP s.P 3 (.slice none 0 0) } = s := by
      obtain ⟨sa, sn, sc, sp, no, sW, sM, sA, sB, sC, sP, sbl⟩ := s
      simp only at hp0  ⊢
      have : updP sP 3 (.slice none 0 0) = sP := by
        funext i
        unfold updP
        by_cases h : i = 3
        · rw [if_pos h, h, hp0]
        · rw [if_neg h]
      rw [this]
    rw [e]; exact hr
  have HI0 : Hid (RI3 w g bx B b6 p s l 0 w) := hI0
  clear hI0 hr hbx hF hw hp0 hv0 hbl
  have HWs : Hid (∃ x m k, s.W = .slice x m k) := hWs
  clear hWs
  go_enter Tryz.func86, Tryz.ntmps86
  go_wp2_with fail
  obtain ⟨W0, hW0⟩ : ∃ W0, W0 = w := ⟨_, rfl⟩
  go_loopw [9] (fun i wr => ∃ k : Nat, k ≤ n ∧ i = .int .i64 (k : Nat) ∧ RI3 w g bx B b6 p s l k wr) (fun i _ => n - (intOf i).toNat)
  case atStart => exact ⟨0, Nat.zero_le _, rfl, HI0.out⟩
  case round =>
    obtain ⟨k, hk, rfl, hI⟩ := hrel
    clear HI0
    by_cases hlt : k < n
    · rcases hI with ⟨rows, q, v, pv, hm, hx, hrow, hpl, hbx, hbut, hbl⟩ | ⟨e, s', hm, hx, hsf, hbx, hbut, hble⟩
      · have hlen : rows.length = k := manyP_len hm
        have c2 : wr.cell? ⟨g, 2, none⟩ = some (.pointer none) := RB.c2 hx
        have c1 : wr.cell? ⟨g, 1, none⟩ = some (.int .i64 (q : Nat)) := RB.c1 hx
        have cp : wr.cell? ⟨g, 11, none⟩ = some pv := RB.c11 hx
        have hd : Below wr.heap.size wr wr.drew := (Below.refl _ _).drew
        have hBr : B ≤ wr.heap.size := Nat.le_trans hB hbut.size
        have HAPP := appI_step wr wr.drew g B q { s with P := updP s.P 3 pv } pv (rows.map Prod.snd) (Rx.below hx hd) (hpl.kt (KT.of_below hd)) (But.of_below (hd.mono hBr)) (fun T _ => KT.of_below hd) (Nat.le_trans hBr hd.size) (by simp; omega)
        have hne : bx ≠ g := hbx.ne hx
        have HX : Hid (Rx wr g { s with P := updP s.P 3 pv } (.ok q)) := hx
        have HROW : Hid (RowS wr B v (rows.map Prod.fst)) := hrow
        have HBX : Hid (BoxR wr bx g) := hbx
        have HBUT : Hid (But g B w wr) := hbut
        have HBL : Hid (BoxL wr b6 v) := hbl
        clear hx hrow hpl hbx hbut hbl
        go_wp2_with fail
        refine wp_region_heldtail 16 (fun w' => w'.cell? ⟨g, 11, none⟩ = some pv ∧ w'.cell? ⟨g, 1, none⟩ = some (.int .i64 (q : Nat))) (by kernel_rfl) (by kernel_rfl) ?_
        have hS : (wr.drew.cell? ⟨g, 11, none⟩ = some pv ∧ wr.drew.cell? ⟨g, 1, none⟩ = some (.int .i64 (q : Nat))) := ⟨by simpa using cp, by simpa using c1⟩
        refine HL_take (i := 0) (.pointer (some ⟨g, 0, none⟩)) (by kernel_rfl) rfl (by omega) (by kernel_rfl) (by kernel_rfl) (by kernel_rfl) (fun _ _ _ h => h) (.inl ⟨by kernel_rfl, fun w' hw' => by obtain ⟨u0, u1⟩ := hw'; go_simp⟩) hS ?_
        simp only [Act.put, List.setIfInBounds_toArray, List.set_cons_zero, List.set_cons_succ]
        refine HL_take (i := 1) (.int .i64 3) (by kernel_rfl) rfl (by omega) (by kernel_rfl) (by kernel_rfl) (by kernel_rfl) (fun _ _ _ h => h) (.inl ⟨by kernel_rfl, fun w' hw' => by obtain ⟨u0, u1⟩ := hw'; go_simp⟩) hS ?_
        simp only [Act.put, List.setIfInBounds_toArray, List.set_cons_zero, List.set_cons_succ]
        refine HL_take (i := 2) (.pointer (some ⟨g, 0, none⟩)) (by kernel_rfl) rfl (by omega) (by kernel_rfl) (by kernel_rfl) (by kernel_rfl) (fun _ _ _ h => h) (.inl ⟨by kernel_rfl, fun w' hw' => by obtain ⟨u0, u1⟩ := hw'; go_simp⟩) hS ?_
        simp only [Act.put, List.setIfInBounds_toArray, List.set_cons_zero, List.set_cons_succ]
        refine HL_take (i := 3) (.int .i64 3) (by kernel_rfl) rfl (by omega) (by kernel_rfl) (by kernel_rfl) (by kernel_rfl) (fun _ _ _ h => h) (.inl ⟨by kernel_rfl, fun w' hw' => by obtain ⟨u0, u1⟩ := hw'; go_simp⟩) hS ?_
        simp only [Act.put, List.setIfInBounds_toArray, List.set_cons_zero, List.set_cons_succ]
        refine HL_take (i := 4) (.pointer (some ⟨g, 0, none⟩)) (by kernel_rfl) rfl (by omega) (by kernel_rfl) (by kernel_rfl) (by kernel_rfl) (fun _ _ _ h => h) (.inl ⟨by kernel_rfl, fun w' hw' => by obtain ⟨u0, u1⟩ := hw'; go_simp⟩) hS ?_
        simp only [Act.put, List.setIfInBounds_toArray, List.set_cons_zero, List.set_cons_succ]
        refine HL_take (i := 5) (.pointer (some ⟨g, 8, none⟩)) (by kernel_rfl) rfl (by omega) (by kernel_rfl) (by kernel_rfl) (by kernel_rfl) (fun _ _ _ h => h) (.inl ⟨by kernel_rfl, fun w' hw' => by obtain ⟨u0, u1⟩ := hw'; go_simp⟩) hS ?_
        simp only [Act.put, List.setIfInBounds_toArray, List.set_cons_zero, List.set_cons_succ]
        refine HL_take (i := 6) (.pointer (some ⟨g, 11, none⟩)) (by kernel_rfl) rfl (by omega) (by kernel_rfl) (by kernel_rfl) (by kernel_rfl) (fun _ _ _ h => h) (.inl ⟨by kernel_rfl, fun w' hw' => by obtain ⟨u0, u1⟩ := hw'; go_simp⟩) hS ?_
        simp only [Act.put, List.setIfInBounds_toArray, List.set_cons_zero, List.set_cons_succ]
        refine HL_take (i := 7) (pv) (by kernel_rfl) rfl (by omega) (by kernel_rfl) (by kernel_rfl) (by kernel_rfl) (fun _ _ _ h => h) (.inl ⟨by kernel_rfl, fun w' hw' => by obtain ⟨u0, u1⟩ := hw'; go_simp⟩) hS ?_
        simp only [Act.put, List.setIfInBounds_toArray, List.set_cons_zero, List.set_cons_succ]
        refine HL_take (i := 8) (.pointer (some ⟨g, 0, none⟩)) (by kernel_rfl) rfl (by omega) (by kernel_rfl) (by kernel_rfl) (by kernel_rfl) (fun _ _ _ h => h) (.inl ⟨by kernel_rfl, fun w' hw' => by obtain ⟨u0, u1⟩ := hw'; go_simp⟩) hS ?_
        simp only [Act.put, List.setIfInBounds_toArray, List.set_cons_zero, List.set_cons_succ]
        refine HL_take (i := 9) (.pointer (some ⟨g, 0, none⟩)) (by kernel_rfl) rfl (by omega) (by kernel_rfl) (by kernel_rfl) (by kernel_rfl) (fun _ _ _ h => h) (.inl ⟨by kernel_rfl, fun w' hw' => by obtain ⟨u0, u1⟩ := hw'; go_simp⟩) hS ?_
        simp only [Act.put, List.setIfInBounds_toArray, List.set_cons_zero, List.set_cons_succ]
        refine HL_take (i := 10) (.pointer (some ⟨g, 1, none⟩)) (by kernel_rfl) rfl (by omega) (by kernel_rfl) (by kernel_rfl) (by kernel_rfl) (fun _ _ _ h => h) (.inl ⟨by kernel_rfl, fun w' hw' => by obtain ⟨u0, u1⟩ := hw'; go_simp⟩) hS ?_
        simp only [Act.put, List.setIfInBounds_toArray, List.set_cons_zero, List.set_cons_succ]
        refine HL_take (i := 11) (.int .i64 (q : Nat)) (by kernel_rfl) rfl (by omega) (by kernel_rfl) (by kernel_rfl) (by kernel_rfl) (fun _ _ _ h => h) (.inl ⟨by kernel_rfl, fun w' hw' => by obtain ⟨u0, u1⟩ := hw'; go_simp⟩) hS ?_
        simp only [Act.put, List.setIfInBounds_toArray, List.set_cons_zero, List.set_cons_succ]
        refine HL_take (i := 14) (.pointer (some ⟨g, 0, none⟩)) (by kernel_rfl) rfl (by omega) (by kernel_rfl) (by kernel_rfl) (by kernel_rfl) (fun _ _ _ h => h) (.inl ⟨by kernel_rfl, fun w' hw' => by obtain ⟨u0, u1⟩ := hw'; go_simp⟩) hS ?_
        simp only [Act.put, List.setIfInBounds_toArray, List.set_cons_zero, List.set_cons_succ]
        refine HL_take (i := 15) (.pointer (some ⟨g, 8, none⟩)) (by kernel_rfl) rfl (by omega) (by kernel_rfl) (by kernel_rfl) (by kernel_rfl) (fun _ _ _ h => h) (.inl ⟨by kernel_rfl, fun w' hw' => by obtain ⟨u0, u1⟩ := hw'; go_simp⟩) hS ?_
        simp only [Act.put, List.setIfInBounds_toArray, List.set_cons_zero, List.set_cons_succ]
        refine HL_one (i := 12) rfl (by omega) (by kernel_rfl) rfl ?_
        refine wp_value (v := .slice (some ⟨wr.heap.size, 0, none⟩) 1 1) (w' := wr.drew.alloc (.cells #[.int .i64 (q : Nat)] 3)) (by go_simp) ?_
        refine ⟨⟨cell_new hS.1 _, cell_new hS.2 _⟩, ?_⟩
        simp only [Act.put, List.setIfInBounds_toArray, List.set_cons_zero, List.set_cons_succ]
        refine HL_one (i := 13) rfl (by omega) (by kernel_rfl) rfl ?_
        refine wp_append (.tmp 23) (.tmp 28) 52 52 (by kernel_rfl) pv (.slice (some ⟨wr.heap.size, 0, none⟩) 1 1) (by go_simp) (by go_simp) (AppI wr g B q { s with P := updP s.P 3 pv } (rows.map Prod.snd ++ [q])) (by exact HAPP) ?_
        rintro v5 w5 ⟨r1, r2, r3, r4, gg, cc, rfl⟩
        have f3 := r1.free 11
        have y1 : w5.cell? ⟨g, 1, none⟩ = some (.int .i64 (q : Nat)) := RB.c1 r1
        have e3 : w5.cell? ⟨g, 11, none⟩ = some pv := RB.c11 r1
        refine ⟨⟨e3, y1⟩, ?_⟩
        simp only [Act.put, List.setIfInBounds_toArray, List.set_cons_zero, List.set_cons_succ]
        refine ⟨by kernel_rfl, ?_⟩
        simp only [List.drop_succ_cons, List.drop_zero]
        clear HAPP hS c2 c1 cp
        have R1 : Hid (Rx w5 g { s with P := updP s.P 3 pv } (.ok q)) := r1
        have R2 : Hid (RowI w5 B (.slice (some ⟨gg, 0, none⟩) (rows.map Prod.snd ++ [q]).length cc) (rows.map Prod.snd ++ [q])) := r2
        have R3 : Hid (But g B wr w5) := r3
        have R4 : Hid (∀ T, T ≠ 3 → KT T wr w5) := r4
        clear r1 r2 r3 r4 y1
        go_wp2_with fail
        obtain ⟨u5, hu5⟩ : ∃ u5 : Value, u5 = .slice (some ⟨gg, 0, none⟩) (rows.map Prod.snd ++ [q]).length cc := ⟨_, rfl⟩
        have hu5' : (Value.slice (some ⟨gg, 0, none⟩) (rows.length + 1) cc) = u5 := by rw [hu5]; simp
        rw [← hu5] at R2
        first | rw [hu5'] | (rw [show rows.length = k from hlen] at hu5'; rw [hu5']) | skip
        obtain ⟨w6, hw6⟩ : ∃ w6, w6 = w5.setCell ⟨g, 11, none⟩ u5 := ⟨_, rfl⟩
        rw [← hw6]
        have x6 : Rx w6 g { s with P := updP s.P 3 u5 } (.ok q) := by
          rw [hw6]
          have := R1.out.setPk (k := 3) (by omega) u5
          simp only [updP_same] at this
          exact this
        have b6' : But g B w w6 := by rw [hw6]; exact (HBUT.out.trans R3.out).setCell 11 u5
        have k6 : ∀ T, T ≠ 3 → T ≠ 88 → KT T wr w6 := fun T h1 h2 => by rw [hw6]; exact (R4.out T h1).trans (R1.out.setkt h2 11 u5)
        have pl6 : RowI w6 B u5 (rows.map Prod.snd ++ [q]) := by rw [hw6]; exact R2.out.kt (R1.out.setkt (T := 3) (by decide) 11 u5)
        have row6 : RowS w6 B v (rows.map Prod.fst) := HROW.out.kt (k6 _ (by decide) (by decide))
        have bx6 : BoxR w6 bx g := HBX.out.kt (k6 _ (by decide) (by decide))
        have bl6 : BoxL w6 b6 v := HBL.out.kt (k6 _ (by decide) (by decide))
        refine (spansC_any g bx B b6 q v { s with P := updP s.P 3 u5 } l (rows.map Prod.fst) w6 bx6 bl6 x6 row6 ⟨hFn.out, hFle, hFlim, HFl.out w6 b6'⟩ (by obtain ⟨w0, q1, q2, q3⟩ := hw'.out; exact ⟨w0, q1.trans (b6'.below (B' := w0.heap.size) (by have := q1.size; omega) q3), q2, q3⟩) (Nat.le_trans hB b6'.size) hgB hb6 (by simp; omega)).mono ?_
        rintro e w7 ⟨rfl, ⟨c1, c2, c3⟩, t, v7, x', hst, x7, bl7, row7⟩
        have b7 : But g B w w7 := b6'.trans c1
        have hI7 : RI3 w g bx B b6 p s l (k + 1) w7 := by
          rcases many_step hm hst with ⟨r, rfl, hm2⟩ | ⟨e, rfl, hm2⟩
          · exact .inl ⟨rows ++ [(t, q)], r, v7, u5, hm2, x7, (by rw [List.map_append]; exact row7), (by rw [List.map_append]; exact pl6.kt c2), c3, b7, bl7⟩
          · exact .inr ⟨e, _, hm2, x7, ⟨rfl, rfl, rfl, HWs.out⟩, c3, b7, v7, _, bl7, row7⟩
        have HI7 : Hid (RI3 w g bx B b6 p s l (k + 1) w7) := hI7
        clear hI7 x6 k6 pl6 row6 bx6 c1 c2 c3 hst x7 row7 b7 hw6 bl6 bl7
        go_wp2_with fail
        go_roundw
        case rel => exact ⟨k + 1, by omega, by go_num, HI7.out⟩
        case measure => simp only [intOf]; omega
      · have HE : Hid (RErr wr g s' e) := hx
        obtain ⟨p1, N, k1, k3, k4⟩ := hx
        have c2 := k1.c2
        clear k1 k4
        go_wp2_with fail
        exact bodyPost_ret (v := .tuple #[]) (results_none rfl _ _ _) rfl ⟨rfl, .inr ⟨e, s', manyP_stop hm n (by omega), HE.out, hsf, hbx, hbut, hble⟩⟩
    · have hkn : k = n := by omega
      rw [hkn] at hI
      have HI : Hid (RI3 w g bx B b6 p s l n wr) := hI
      clear hI
      go_wp2_with fail
      go_end0
      exact ⟨rfl, HI.out⟩
end Go.Proofs.YtplmmamebfpcjaaGreatDoor
end
section
/- reader.spans, each list: its contract. -/
namespace Go.Proofs.YtplmmamebfpcjaaGreatDoor
open Go.RowKit Go.Sort Go.Joins
set_option linter.unusedVariables false
set_option maxRecDepth 100000
set_option linter.unusedSimpArgs false
def SpansQ (li : Nat) (w' : World) (g B : Nat) (s : RS) (e : Ending) (x : Except Er (List (Sp × Nat) × Nat)) : Prop :=
  match x with
  | .ok (rows, q) => ∃ v pv, e = .returned v ∧ Rx w' g { s with P := updP s.P li pv } (.ok q) ∧ RowS w' B v (rows.map Prod.fst) ∧ RowI w' B pv (rows.map Prod.snd)
  | .error r => ∃ s' v l1, e = .returned v ∧ RErr w' g s' r ∧ SameF s s' ∧ RowS w' B v l1
theorem BoxL.new (w : World) (v : Value) : BoxL (w.alloc (.cells #[v] 24)) w.heap.size v := heap_alloc_new _ _
theorem RI1.q {w : World} {g bx B b6 p : Nat} {s : RS} {l : List UInt8} {k : Nat} {wr : World} (h : RI1 w g bx B b6 p s l k wr) : But g B w wr ∧ ∃ v l1, BoxL wr b6 v ∧ RowS wr B v l1 ∧ SpansQ 1 wr g B s (.returned v) (manyP (spP l) k p) := by
  rcases h with ⟨rows, q, v, pv, hm, hx, hrow, hpl, hbx, hbut, hbl⟩ | ⟨e, s', hm, hx, hsf, hbx, hbut, v, l1, hbl, hrow⟩
  · rw [hm]; exact ⟨hbut, v, _, hbl, hrow, v, pv, rfl, hx, hrow, hpl⟩
  · rw [hm]; exact ⟨hbut, v, l1, hbl, hrow, s', v, l1, rfl, hx, hsf, hrow⟩
theorem RI2.q {w : World} {g bx B b6 p : Nat} {s : RS} {l : List UInt8} {k : Nat} {wr : World} (h : RI2 w g bx B b6 p s l k wr) : But g B w wr ∧ ∃ v l1, BoxL wr b6 v ∧ RowS wr B v l1 ∧ SpansQ 2 wr g B s (.returned v) (manyP (spP l) k p) := by
  rcases h with ⟨rows, q, v, pv, hm, hx, hrow, hpl, hbx, hbut, hbl⟩ | ⟨e, s', hm, hx, hsf, hbx, hbut, v, l1, hbl, hrow⟩
  · rw [hm]; exact ⟨hbut, v, _, hbl, hrow, v, pv, rfl, hx, hrow, hpl⟩
  · rw [hm]; exact ⟨hbut, v, l1, hbl, hrow, s', v, l1, rfl, hx, hsf, hrow⟩
theorem RI3.q {w : World} {g bx B b6 p : Nat} {s : RS} {l : List UInt8} {k : Nat} {wr : World} (h : RI3 w g bx B b6 p s l k wr) : But g B w wr ∧ ∃ v l1, BoxL wr b6 v ∧ RowS wr B v l1 ∧ SpansQ 3 wr g B s (.returned v) (manyP (spP l) k p) := by
  rcases h with ⟨rows, q, v, pv, hm, hx, hrow, hpl, hbx, hbut, hbl⟩ | ⟨e, s', hm, hx, hsf, hbx, hbut, v, l1, hbl, hrow⟩
  · rw [hm]; exact ⟨hbut, v, _, hbl, hrow, v, pv, rfl, hx, hrow, hpl⟩
  · rw [hm]; exact ⟨hbut, v, l1, hbl, hrow, s', v, l1, rfl, hx, hsf, hrow⟩
set_option maxHeartbeats 4000000 in
theorem spans_bad (g : Nat) (li : Int) (s : RS) (r : Er) (w : World) (hr : RErr w g s r) :
    Calls Tryz.prog 66 #[.pointer (some ⟨g, 0, none⟩), .int .i64 li] w fun e w' => e = .returned (.slice none 0 0) ∧ RErr w' g s r ∧ But g w.heap.size w w' := by
  have hb0 := box_below w (.cells #[.pointer (some ⟨g, 0, none⟩)] 121)
  have hbx0 := BoxR.new w g
  have hgl : g < w.heap.size := RErr.lt hr
  have hx0 := RErr.below hr hb0
  obtain ⟨Y, hY⟩ : ∃ Y, Y = w.alloc (.cells #[.pointer (some ⟨g, 0, none⟩)] 121) := ⟨_, rfl⟩
  have c0 := hbx0.cell
  rw [← hY] at hb0 hbx0 hx0
  have hbut0 : But g w.heap.size w Y := But.of_below hb0
  have hYs : w.heap.size ≤ Y.heap.size := hb0.size
  have hYs1 : Y.heap.size = w.heap.size + 1 := by rw [hY]; simp
  have HYs1 : Hid (Y.heap.size = w.heap.size + 1) := hYs1
  have HY : Hid (Y = w.alloc (.cells #[.pointer (some ⟨g, 0, none⟩)] 121)) := hY
  have HBX : Hid (BoxR Y w.heap.size g) := hbx0
  have hN := number_bad g s r 0 512 4 Y hx0
  have hb2 := box_below Y (.cells #[.slice none 0 0] 24)
  have c2 := (hbx0.kt (KT.of_below hb2)).cell
  have c3 := (BoxL.new Y (.slice none 0 0)).cell
  have h1' := RErr.below hx0 hb2
  have hR := fun f => rows_err g 0 li f s r _ h1'
  clear hr hY hYs1 hbx0
  go_enter Tryz.func66, Tryz.ntmps66
  go_wp2_with fail
  rw [← HY.out]
  refine hN.mono ?_
  have c1 := HBX.out.cell
  clear c0
  rintro e w1 ⟨rfl, rfl⟩
  go_wp2_with fail
  refine (hR _).mono ?_
  rintro e w2 ⟨rfl, rfl⟩
  go_wp2_with fail
  go_ret
  exact ⟨rfl, h1', hbut0.trans (But.of_below (hb2.mono hYs))⟩
set_option maxHeartbeats 4000000 in
theorem spans1_ok (g p : Nat) (s : RS) (l : List UInt8) (w : World) (hr : Rx w g s (.ok p)) (hp0 : s.P 1 = .slice none 0 0) (hWs : ∃ x m k, s.W = .slice x m k) (hF : Fl w s l) (hw : ∃ w0 : World, Below w0.heap.size w0 w ∧ Oc.BS w0 s.a l ∧ w0.heap.size ≤ g) :
    Calls Tryz.prog 66 #[.pointer (some ⟨g, 0, none⟩), .int .i64 1] w fun e w' => But g w.heap.size w w' ∧ SpansQ 1 w' g w.heap.size s e (listP l p) := by
  have hb0 := box_below w (.cells #[.pointer (some ⟨g, 0, none⟩)] 121)
  have hbx0 := BoxR.new w g
  have hgl : g < w.heap.size := Rx.lt hr
  have hx0 := Rx.below hr hb0
  obtain ⟨Y, hY⟩ : ∃ Y, Y = w.alloc (.cells #[.pointer (some ⟨g, 0, none⟩)] 121) := ⟨_, rfl⟩
  have c0 := hbx0.cell
  rw [← hY] at hb0 hbx0 hx0
  have hbut0 : But g w.heap.size w Y := But.of_below hb0
  have hYs : w.heap.size ≤ Y.heap.size := hb0.size
  have hYs1 : Y.heap.size = w.heap.size + 1 := by rw [hY]; simp
  have HYs1 : Hid (Y.heap.size = w.heap.size + 1) := hYs1
  have HY : Hid (Y = w.alloc (.cells #[.pointer (some ⟨g, 0, none⟩)] 121)) := hY
  have HBX : Hid (BoxR Y w.heap.size g) := hbx0
  have hF0 := hF.step hw hbut0 hgl
  have hw0 := ctx_step hw hbut0 hgl
  have HN := number_uni g s l (.ok p) 0 512 4 Y (by omega) (by omega) hx0 hF0
  have hle := numX_le l 0 512 4 (.ok p)
  have HW0 : Hid (∃ w0 : World, Below w0.heap.size w0 Y ∧ Oc.BS w0 s.a l ∧ w0.heap.size ≤ g) := hw0
  have HF0 : Hid (Fl Y s l) := hF0
  have HP0 : Hid (s.P 1 = .slice none 0 0) := hp0
  have HWs : Hid (∃ x m k, s.W = .slice x m k) := hWs
  clear hr hF hw hx0 hF0 hw0 hp0 hWs hY hYs1 hbx0
  unfold listP
  cases hx : numP l 0 512 4 p with
  | error r =>
    rw [numX_no hx] at HN hle
    simp only [andP] at HN ⊢
    go_enter Tryz.func66, Tryz.ntmps66
    go_wp2_with fail
    rw [← HY.out]
    refine HN.mono ?_
    rintro e w1 ⟨rfl, h1, h2⟩
    have hbut1 : But g w.heap.size w w1 := hbut0.trans (h2.mono hYs)
    have hbx1 : BoxR w1 w.heap.size g := (h2.2.2.2.2 w.heap.size (by rw [HYs1.out]; omega) (by omega)).trans HBX.out
    have hb2 := box_below w1 (.cells #[.slice none 0 0] 24)
    have c2 := (hbx1.kt (KT.of_below hb2)).cell
    have c3 := (BoxL.new w1 (.slice none 0 0)).cell
    have h1' := RErr.below h1 hb2
    clear HN c0 h2 hbx1 h1
    go_wp2_with fail
    refine (rows_err g 0 1 _ s r _ h1').mono ?_
    rintro e w2 ⟨rfl, rfl⟩
    go_wp2_with fail
    go_ret
    exact ⟨hbut1.trans (But.of_below (hb2.mono hbut1.size)), s, _, [], rfl, h1', .refl HWs.out, RowS.nil _ _⟩
  | ok k =>
    obtain ⟨n, q⟩ := k
    rw [numX_ok hx] at HN hle
    simp only [andP] at HN hle ⊢
    go_enter Tryz.func66, Tryz.ntmps66
    go_wp2_with fail
    rw [← HY.out]
    refine HN.mono ?_
    rintro e w1 ⟨rfl, h1, h2⟩
    have hgY : g < Y.heap.size := by omega
    have hbut1 : But g w.heap.size w w1 := hbut0.trans (h2.mono hYs)
    have hbx1 : BoxR w1 w.heap.size g := (h2.2.2.2.2 w.heap.size (by rw [HYs1.out]; omega) (by omega)).trans HBX.out
    have hb2 := box_below w1 (.cells #[.slice none 0 0] 24)
    have hbx2 := hbx1.kt (KT.of_below hb2)
    have hbl2 := BoxL.new w1 (.slice none 0 0)
    obtain ⟨w2, hw2⟩ : ∃ w2, w2 = w1.alloc (.cells #[.slice none 0 0] 24) := ⟨_, rfl⟩
    have c2 := hbx2.cell
    have h1' := Rx.below h1 hb2
    rw [← hw2] at hb2 hbx2 hbl2 h1'
    have hbut2 : But g w.heap.size w w2 := hbut1.trans (But.of_below (hb2.mono hbut1.size))
    have H1 : Hid (Rx w2 g s (.ok q)) := h1'
    have hF2 : Fl w2 s l := (HF0.out.step HW0.out h2 hgY).below hb2
    have hw2' := ctx_step (ctx_step HW0.out h2 hgY) (But.of_below (b := g) hb2) (by have := h2.size; omega)
    have HW2 : Hid (w2 = w1.alloc (.cells #[.slice none 0 0] 24)) := hw2
    have HBL2 : Hid (BoxL w2 w1.heap.size (.slice none 0 0)) := hbl2
    have hbut1s := hbut1.size
    clear HN c0 h1 h1' hw2 hbx1 hbl2
    go_wp2_with fail
    rw [← HW2.out]
    refine (rows1_any g w.heap.size w.heap.size w1.heap.size q n (.slice none 0 0) s l w2 (by omega) hbx2 HBL2.out H1.out HP0.out rfl HWs.out hF2 hw2' hbut2.size hgl hbut1s).mono ?_
    rintro e w3 ⟨rfl, hI⟩
    obtain ⟨k1, v, l1, k2, k3, k4⟩ := hI.q
    have c4 := k2.cell
    have K4 : Hid (SpansQ 1 w3 g w.heap.size s (.returned v) (manyP (spP l) n q)) := k4
    clear k4 hI c2
    go_wp2_with fail
    go_ret
    exact ⟨hbut2.trans k1, K4.out⟩
set_option maxHeartbeats 4000000 in
theorem spans2_ok (g p : Nat) (s : RS) (l : List UInt8) (w : World) (hr : Rx w g s (.ok p)) (hp0 : s.P 2 = .slice none 0 0) (hWs : ∃ x m k, s.W = .slice x m k) (hF : Fl w s l) (hw : ∃ w0 : World, Below w0.heap.size w0 w ∧ Oc.BS w0 s.a l ∧ w0.heap.size ≤ g) :
    Calls Tryz.prog 66 #[.pointer (some ⟨g, 0, none⟩), .int .i64 2] w fun e w' => But g w.heap.size w w' ∧ SpansQ 2 w' g w.heap.size s e (listP l p) := by
  have hb0 := box_below w (.cells #[.pointer (some ⟨g, 0, none⟩)] 121)
  have hbx0 := BoxR.new w g
  have hgl : g < w.heap.size := Rx.lt hr
  have hx0 := Rx.below hr hb0
  obtain ⟨Y, hY⟩ : ∃ Y, Y = w.alloc (.cells #[.pointer (some ⟨g, 0, none⟩)] 121) := ⟨_, rfl⟩
  have c0 := hbx0.cell
  rw [← hY] at hb0 hbx0 hx0
  have hbut0 : But g w.heap.size w Y := But.of_below hb0
  have hYs : w.heap.size ≤ Y.heap.size := hb0.size
  have hYs1 : Y.heap.size = w.heap.size + 1 := by rw [hY]; simp
  have HYs1 : Hid (Y.heap.size = w.heap.size + 1) := hYs1
  have HY : Hid (Y = w.alloc (.cells #[.pointer (some ⟨g, 0, none⟩)] 121)) := hY
  have HBX : Hid (BoxR Y w.heap.size g) := hbx0
  have hF0 := hF.step hw hbut0 hgl
  have hw0 := ctx_step hw hbut0 hgl
  have HN := number_uni g s l (.ok p) 0 512 4 Y (by omega) (by omega) hx0 hF0
  have hle := numX_le l 0 512 4 (.ok p)
  have HW0 : Hid (∃ w0 : World, Below w0.heap.size w0 Y ∧ Oc.BS w0 s.a l ∧ w0.heap.size ≤ g) := hw0
  have HF0 : Hid (Fl Y s l) := hF0
  have HP0 : Hid (s.P 2 = .slice none 0 0) := hp0
  have HWs : Hid (∃ x m k, s.W = .slice x m k) := hWs
  clear hr hF hw hx0 hF0 hw0 hp0 hWs hY hYs1 hbx0
  unfold listP
  cases hx : numP l 0 512 4 p with
  | error r =>
    rw [numX_no hx] at HN hle
    simp only [andP] at HN ⊢
    go_enter Tryz.func66, Tryz.ntmps66
    go_wp2_with fail
    rw [← HY.out]
    refine HN.mono ?_
    rintro e w1 ⟨rfl, h1, h2⟩
    have hbut1 : But g w.heap.size w w1 := hbut0.trans (h2.mono hYs)
    have hbx1 : BoxR w1 w.heap.size g := (h2.2.2.2.2 w.heap.size (by rw [HYs1.out]; omega) (by omega)).trans HBX.out
    have hb2 := box_below w1 (.cells #[.slice none 0 0] 24)
    have c2 := (hbx1.kt (KT.of_below hb2)).cell
    have c3 := (BoxL.new w1 (.slice none 0 0)).cell
    have h1' := RErr.below h1 hb2
    clear HN c0 h2 hbx1 h1
    go_wp2_with fail
    refine (rows_err g 0 2 _ s r _ h1').mono ?_
    rintro e w2 ⟨rfl, rfl⟩
    go_wp2_with fail
    go_ret
    exact ⟨hbut1.trans (But.of_below (hb2.mono hbut1.size)), s, _, [], rfl, h1', .refl HWs.out, RowS.nil _ _⟩
  | ok k =>
    obtain ⟨n, q⟩ := k
    rw [numX_ok hx] at HN hle
    simp only [andP] at HN hle ⊢
    go_enter Tryz.func66, Tryz.ntmps66
    go_wp2_with fail
    rw [← HY.out]
    refine HN.mono ?_
    rintro e w1 ⟨rfl, h1, h2⟩
    have hgY : g < Y.heap.size := by omega
    have hbut1 : But g w.heap.size w w1 := hbut0.trans (h2.mono hYs)
    have hbx1 : BoxR w1 w.heap.size g := (h2.2.2.2.2 w.heap.size (by rw [HYs1.out]; omega) (by omega)).trans HBX.out
    have hb2 := box_below w1 (.cells #[.slice none 0 0] 24)
    have hbx2 := hbx1.kt (KT.of_below hb2)
    have hbl2 := BoxL.new w1 (.slice none 0 0)
    obtain ⟨w2, hw2⟩ : ∃ w2, w2 = w1.alloc (.cells #[.slice none 0 0] 24) := ⟨_, rfl⟩
    have c2 := hbx2.cell
    have h1' := Rx.below h1 hb2
    rw [← hw2] at hb2 hbx2 hbl2 h1'
    have hbut2 : But g w.heap.size w w2 := hbut1.trans (But.of_below (hb2.mono hbut1.size))
    have H1 : Hid (Rx w2 g s (.ok q)) := h1'
    have hF2 : Fl w2 s l := (HF0.out.step HW0.out h2 hgY).below hb2
    have hw2' := ctx_step (ctx_step HW0.out h2 hgY) (But.of_below (b := g) hb2) (by have := h2.size; omega)
    have HW2 : Hid (w2 = w1.alloc (.cells #[.slice none 0 0] 24)) := hw2
    have HBL2 : Hid (BoxL w2 w1.heap.size (.slice none 0 0)) := hbl2
    have hbut1s := hbut1.size
    clear HN c0 h1 h1' hw2 hbx1 hbl2
    go_wp2_with fail
    rw [← HW2.out]
    refine (rows2_any g w.heap.size w.heap.size w1.heap.size q n (.slice none 0 0) s l w2 (by omega) hbx2 HBL2.out H1.out HP0.out rfl HWs.out hF2 hw2' hbut2.size hgl hbut1s).mono ?_
    rintro e w3 ⟨rfl, hI⟩
    obtain ⟨k1, v, l1, k2, k3, k4⟩ := hI.q
    have c4 := k2.cell
    have K4 : Hid (SpansQ 2 w3 g w.heap.size s (.returned v) (manyP (spP l) n q)) := k4
    clear k4 hI c2
    go_wp2_with fail
    go_ret
    exact ⟨hbut2.trans k1, K4.out⟩
set_option maxHeartbeats 4000000 in
theorem spans3_ok (g p : Nat) (s : RS) (l : List UInt8) (w : World) (hr : Rx w g s (.ok p)) (hp0 : s.P 3 = .slice none 0 0) (hWs : ∃ x m k, s.W = .slice x m k) (hF : Fl w s l) (hw : ∃ w0 : World, Below w0.heap.size w0 w ∧ Oc.BS w0 s.a l ∧ w0.heap.size ≤ g) :
    Calls Tryz.prog 66 #[.pointer (some ⟨g, 0, none⟩), .int .i64 3] w fun e w' => But g w.heap.size w w' ∧ SpansQ 3 w' g w.heap.size s e (listP l p) := by
  have hb0 := box_below w (.cells #[.pointer (some ⟨g, 0, none⟩)] 121)
  have hbx0 := BoxR.new w g
  have hgl : g < w.heap.size := Rx.lt hr
  have hx0 := Rx.below hr hb0
  obtain ⟨Y, hY⟩ : ∃ Y, Y = w.alloc (.cells #[.pointer (some ⟨g, 0, none⟩)] 121) := ⟨_, rfl⟩
  have c0 := hbx0.cell
  rw [← hY] at hb0 hbx0 hx0
  have hbut0 : But g w.heap.size w Y := But.of_below hb0
  have hYs : w.heap.size ≤ Y.heap.size := hb0.size
  have hYs1 : Y.heap.size = w.heap.size + 1 := by rw [hY]; simp
  have HYs1 : Hid (Y.heap.size = w.heap.size + 1) := hYs1
  have HY : Hid (Y = w.alloc (.cells #[.pointer (some ⟨g, 0, none⟩)] 121)) := hY
  have HBX : Hid (BoxR Y w.heap.size g) := hbx0
  have hF0 := hF.step hw hbut0 hgl
  have hw0 := ctx_step hw hbut0 hgl
  have HN := number_uni g s l (.ok p) 0 512 4 Y (by omega) (by omega) hx0 hF0
  have hle := numX_le l 0 512 4 (.ok p)
  have HW0 : Hid (∃ w0 : World, Below w0.heap.size w0 Y ∧ Oc.BS w0 s.a l ∧ w0.heap.size ≤ g) := hw0
  have HF0 : Hid (Fl Y s l) := hF0
  have HP0 : Hid (s.P 3 = .slice none 0 0) := hp0
  have HWs : Hid (∃ x m k, s.W = .slice x m k) := hWs
  clear hr hF hw hx0 hF0 hw0 hp0 hWs hY hYs1 hbx0
  unfold listP
  cases hx : numP l 0 512 4 p with
  | error r =>
    rw [numX_no hx] at HN hle
    simp only [andP] at HN ⊢
    go_enter Tryz.func66, Tryz.ntmps66
    go_wp2_with fail
    rw [← HY.out]
    refine HN.mono ?_
    rintro e w1 ⟨rfl, h1, h2⟩
    have hbut1 : But g w.heap.size w w1 := hbut0.trans (h2.mono hYs)
    have hbx1 : BoxR w1 w.heap.size g := (h2.2.2.2.2 w.heap.size (by rw [HYs1.out]; omega) (by omega)).trans HBX.out
    have hb2 := box_below w1 (.cells #[.slice none 0 0] 24)
    have c2 := (hbx1.kt (KT.of_below hb2)).cell
    have c3 := (BoxL.new w1 (.slice none 0 0)).cell
    have h1' := RErr.below h1 hb2
    clear HN c0 h2 hbx1 h1
    go_wp2_with fail
    refine (rows_err g 0 3 _ s r _ h1').mono ?_
    rintro e w2 ⟨rfl, rfl⟩
    go_wp2_with fail
    go_ret
    exact ⟨hbut1.trans (But.of_below (hb2.mono hbut1.size)), s, _, [], rfl, h1', .refl HWs.out, RowS.nil _ _⟩
  | ok k =>
    obtain ⟨n, q⟩ := k
    rw [numX_ok hx] at HN hle
    simp only [andP] at HN hle ⊢
    go_enter Tryz.func66, Tryz.ntmps66
    go_wp2_with fail
    rw [← HY.out]
    refine HN.mono ?_
    rintro e w1 ⟨rfl, h1, h2⟩
    have hgY : g < Y.heap.size := by omega
    have hbut1 : But g w.heap.size w w1 := hbut0.trans (h2.mono hYs)
    have hbx1 : BoxR w1 w.heap.size g := (h2.2.2.2.2 w.heap.size (by rw [HYs1.out]; omega) (by omega)).trans HBX.out
    have hb2 := box_below w1 (.cells #[.slice none 0 0] 24)
    have hbx2 := hbx1.kt (KT.of_below hb2)
    have hbl2 := BoxL.new w1 (.slice none 0 0)
    obtain ⟨w2, hw2⟩ : ∃ w2, w2 = w1.alloc (.cells #[.slice none 0 0] 24) := ⟨_, rfl⟩
    have c2 := hbx2.cell
    have h1' := Rx.below h1 hb2
    rw [← hw2] at hb2 hbx2 hbl2 h1'
    have hbut2 : But g w.heap.size w w2 := hbut1.trans (But.of_below (hb2.mono hbut1.size))
    have H1 : Hid (Rx w2 g s (.ok q)) := h1'
    have hF2 : Fl w2 s l := (HF0.out.step HW0.out h2 hgY).below hb2
    have hw2' := ctx_step (ctx_step HW0.out h2 hgY) (But.of_below (b := g) hb2) (by have := h2.size; omega)
    have HW2 : Hid (w2 = w1.alloc (.cells #[.slice none 0 0] 24)) := hw2
    have HBL2 : Hid (BoxL w2 w1.heap.size (.slice none 0 0)) := hbl2
    have hbut1s := hbut1.size
    clear HN c0 h1 h1' hw2 hbx1 hbl2
    go_wp2_with fail
    rw [← HW2.out]
    refine (rows3_any g w.heap.size w.heap.size w1.heap.size q n (.slice none 0 0) s l w2 (by omega) hbx2 HBL2.out H1.out HP0.out rfl HWs.out hF2 hw2' hbut2.size hgl hbut1s).mono ?_
    rintro e w3 ⟨rfl, hI⟩
    obtain ⟨k1, v, l1, k2, k3, k4⟩ := hI.q
    have c4 := k2.cell
    have K4 : Hid (SpansQ 3 w3 g w.heap.size s (.returned v) (manyP (spP l) n q)) := k4
    clear k4 hI c2
    go_wp2_with fail
    go_ret
    exact ⟨hbut2.trans k1, K4.out⟩
end Go.Proofs.YtplmmamebfpcjaaGreatDoor
end
