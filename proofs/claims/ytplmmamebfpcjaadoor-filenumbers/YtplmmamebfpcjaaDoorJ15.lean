import Derived.Test.YtplmmamebfpcjaaDoorJ14
section
/- The closure that reads one merge: its contract. -/
namespace Go.Proofs.YtplmmamebfpcjaaDoor
open Go.RowKit Go.Sort Go.Joins
set_option linter.unusedVariables false
set_option maxRecDepth 100000
set_option linter.unusedSimpArgs false
theorem mgP_step (l : List UInt8) (q : Nat) : StepOf (mgP l q) ⟨((numX l 0 2147483647 24 (.ok q)).1 : Nat), ((numX l 0 2147483647 24 (numX l 0 2147483647 24 (.ok q)).2).1 : Nat), ((numX l 0 2147483647 24 (numX l 0 2147483647 24 (numX l 0 2147483647 24 (.ok q)).2).2).1 : Nat)⟩ (numX l 0 2147483647 24 (numX l 0 2147483647 24 (numX l 0 2147483647 24 (.ok q)).2).2).2 := by
  unfold mgP idP
  cases h1 : numP l 0 2147483647 24 q with
  | error e => rw [numX_no h1, numX_error, numX_error]; rfl
  | ok k1 =>
    obtain ⟨n1, q1⟩ := k1
    rw [numX_ok h1]
    simp only [andP]
    cases h2 : numP l 0 2147483647 24 q1 with
    | error e => rw [numX_no h2, numX_error]; rfl
    | ok k2 =>
      obtain ⟨n2, q2⟩ := k2
      rw [numX_ok h2]
      simp only [andP]
      cases h3 : numP l 0 2147483647 24 q2 with
      | error e => rw [numX_no h3]; rfl
      | ok k3 =>
        obtain ⟨n3, q3⟩ := k3
        rw [numX_ok h3]
        exact ⟨rfl, rfl⟩
theorem Rx.setM4 {w : World} {g : Nat} {s : RS} {x : Except Er Nat} (h : Rx w g s x) (v : Value) : Rx (w.setCell ⟨g, 4, none⟩ v) g { s with M := v } x := by
  cases x with
  | ok q => exact RB.setM h v
  | error e => obtain ⟨p, N, k1, k3, k4⟩ := h; exact ⟨p, N, k1.setM v, k3, (Below.heap_setCell _ _ _ N (by show N ≠ g; omega)).trans k4⟩
def AppM (w : World) (g bx B : Nat) (s : RS) (x : Except Er Nat) (l : List Mg) (v : Value) (w' : World) : Prop := Rx w' g s x ∧ RowM w' B v l ∧ But g B w w' ∧ KT 3 w w' ∧ BoxR w' bx g ∧ ∃ gg cap, v = .slice (some ⟨gg, 0, none⟩) l.length cap
theorem appM_step (w w1 : World) (g bx B : Nat) (s : RS) (x : Except Er Nat) (ms : List Mg) (t : Mg) (hx : Rx w1 g s x) (hrow : RowM w1 B s.M ms) (hb : But g B w w1) (hk : KT 3 w w1) (hbx : BoxR w1 bx g) (hB : B ≤ w1.heap.size) (hgB : g < B) (hn : ms.length ≤ 4194304) :
    ∃ v' w', (Builtin.append_ #[43, 43] 43 #[s.M, .slice (some ⟨w1.heap.size, 0, none⟩) 1 1]).run Tryd.prog (w1.alloc (.cells #[.int .i64 t.l, .int .i64 t.r, .int .i64 t.i] 50)) = .ok v' w' ∧ AppM w g bx B s x (ms ++ [t]) v' w' := by
  have hbe := box_below w1 (.cells #[.int .i64 t.l, .int .i64 t.r, .int .i64 t.i] 50)
  have hrow2 : RowM (w1.alloc (.cells #[.int .i64 t.l, .int .i64 t.r, .int .i64 t.i] 50)) B s.M ms := hrow.kt (KT.of_below hbe)
  obtain ⟨v', w', h1, h2, h3⟩ := app_merge _ B s.M ms t w1.heap.size 1 hrow2 (heap_alloc_new _ _) (Nat.le_trans hB hbe.size) hn
  have g1 := fun T (hT : T ≠ 50) => grown_kt (T := T) (T2 := 50) (k := 3) (xs := cellsM ms) h3 hrow2 hT
  have g2 := hb.alloc hB (.cells #[.int .i64 t.l, .int .i64 t.r, .int .i64 t.i] 50)
  have g3 := g2.grow (T := 50) (k := 3) (xs := cellsM ms) h3 hrow2 (Nat.le_refl _) (Nat.le_trans hB hbe.size)
  have g4 := own_form (T := 50) (k := 3) (xs := cellsM (ms ++ [t])) h2 (by simp)
  exact ⟨v', w', h1, (hx.below hbe).kt (g1 _ (by decide)) (g1 _ (by decide)), h2, g3, hk.trans ((KT.of_below hbe).trans (g1 _ (by decide))), (hbx.kt (KT.of_below hbe)).kt (g1 _ (by decide)), g4⟩
set_option maxHeartbeats 4000000 in
theorem mergesC_any (g bx B q : Nat) (s : RS) (l : List UInt8) (ms : List Mg) (w : World) (hbx : BoxR w bx g) (hr : Rx w g s (.ok q)) (hrow : RowM w B s.M ms) (hF : Fl w s l) (hw : ∃ w0 : World, Below w0.heap.size w0 w ∧ Oc.BS w0 s.a l ∧ w0.heap.size ≤ g) (hB : B ≤ w.heap.size) (hgB : g < B) (hn : ms.length ≤ 4194304) :
    Calls Tryd.prog 48 #[.pointer (some ⟨bx, 0, none⟩)] w fun e w' => e = .returned (.tuple #[]) ∧ CloP w g bx B w' ∧ ∃ t v x', StepOf (mgP l q) t x' ∧ Rx w' g { s with M := v } x' ∧ RowM w' B v (ms ++ [t]) := by
  have hst := mgP_step l q
  have hnd : Below w.heap.size w w.drew := (Below.refl _ _).drew
  obtain ⟨⟨n1, x1⟩, hq1⟩ : ∃ r, r = numX l 0 2147483647 24 (.ok q) := ⟨_, rfl⟩
  have HC1 := fun wx h1 h2 => id_uni g s l (.ok q) wx h1 h2
  rw [← hq1] at hst HC1
  obtain ⟨⟨n2, x2⟩, hq2⟩ : ∃ r, r = numX l 0 2147483647 24 x1 := ⟨_, rfl⟩
  have HC2 := fun wx h1 h2 => id_uni g s l x1 wx h1 h2
  simp only at hst
  rw [← hq2] at hst HC2
  obtain ⟨⟨n3, x3⟩, hq3⟩ : ∃ r, r = numX l 0 2147483647 24 x2 := ⟨_, rfl⟩
  have HC3 := fun wx h1 h2 => id_uni g s l x2 wx h1 h2
  simp only at hst
  rw [← hq3] at hst HC3
  simp only at hst HC1 HC2 HC3
  have c0 := hbx.cell
  have c4 := RB.c4 hr
  have hne : bx ≠ g := by
    rintro rfl
    have h1 := hbx
    unfold BoxR at h1
    have h2 := hr
    unfold Rx RB at h2
    rw [h1] at h2
    simp at h2
  have HRow : Hid (RowM w B s.M ms) := hrow
  have HBx : Hid (BoxR w bx g) := hbx
  have HFn : Hid (s.n = l.length) := hF.n
  have hFle := hF.le
  have hFlim := hF.lim
  have HFl : Hid (∀ wx, But g w.heap.size w wx → Oc.BS wx s.a l) := fun wx hwx => by
    obtain ⟨w0, k1, k2, k3⟩ := hw
    exact k2.below (k1.trans (hwx.below (B' := w0.heap.size) k1.size k3))
  have hx0 : Rx w.drew g s (.ok q) := Rx.below hr hnd
  have hF0 : Fl w.drew s l := ⟨hF.n, hF.le, hF.lim, hF.at'.below hnd⟩
  have hB0 : But g w.heap.size w w.drew := But.of_below hnd
  have hRB : RB w g { s with p := q, no := none } := hr
  simp only at c4
  clear hr hrow hbx hF hw hq1 hq2 hq3
  go_enter Tryd.func48, Tryd.ntmps48
  go_wp2_with fail
  refine wp_region_heldtail 15 (fun w' => w'.cell? ⟨bx, 0, none⟩ = some (.pointer (some ⟨g, 0, none⟩)) ∧ w'.cell? ⟨g, 4, none⟩ = some s.M) (by kernel_rfl) (by kernel_rfl) ?_
  have hS : (w.drew.cell? ⟨bx, 0, none⟩ = some (.pointer (some ⟨g, 0, none⟩)) ∧ w.drew.cell? ⟨g, 4, none⟩ = some s.M) := ⟨by simpa using c0, by simpa using c4⟩
  refine HL_take (i := 0) (.pointer (some ⟨g, 0, none⟩)) (by kernel_rfl) rfl (by omega) (by kernel_rfl) (by kernel_rfl) (by kernel_rfl) (fun _ _ _ h => h) (.inl ⟨by kernel_rfl, fun w' hw' => by obtain ⟨u0, u4⟩ := hw'; go_simp⟩) hS ?_
  simp only [Act.put, List.setIfInBounds_toArray, List.set_cons_zero, List.set_cons_succ]
  refine HL_take (i := 1) (.pointer (some ⟨g, 0, none⟩)) (by kernel_rfl) rfl (by omega) (by kernel_rfl) (by kernel_rfl) (by kernel_rfl) (fun _ _ _ h => h) (.inl ⟨by kernel_rfl, fun w' hw' => by obtain ⟨u0, u4⟩ := hw'; go_simp⟩) hS ?_
  simp only [Act.put, List.setIfInBounds_toArray, List.set_cons_zero, List.set_cons_succ]
  refine HL_take (i := 2) (.pointer (some ⟨g, 0, none⟩)) (by kernel_rfl) rfl (by omega) (by kernel_rfl) (by kernel_rfl) (by kernel_rfl) (fun _ _ _ h => h) (.inl ⟨by kernel_rfl, fun w' hw' => by obtain ⟨u0, u4⟩ := hw'; go_simp⟩) hS ?_
  simp only [Act.put, List.setIfInBounds_toArray, List.set_cons_zero, List.set_cons_succ]
  refine HL_take (i := 3) (.pointer (some ⟨g, 3, none⟩)) (by kernel_rfl) rfl (by omega) (by kernel_rfl) (by kernel_rfl) (by kernel_rfl) (fun _ _ _ h => h) (.inl ⟨by kernel_rfl, fun w' hw' => by obtain ⟨u0, u4⟩ := hw'; go_simp⟩) hS ?_
  simp only [Act.put, List.setIfInBounds_toArray, List.set_cons_zero, List.set_cons_succ]
  refine HL_take (i := 4) (.pointer (some ⟨g, 4, none⟩)) (by kernel_rfl) rfl (by omega) (by kernel_rfl) (by kernel_rfl) (by kernel_rfl) (fun _ _ _ h => h) (.inl ⟨by kernel_rfl, fun w' hw' => by obtain ⟨u0, u4⟩ := hw'; go_simp⟩) hS ?_
  simp only [Act.put, List.setIfInBounds_toArray, List.set_cons_zero, List.set_cons_succ]
  refine HL_take (i := 5) (s.M) (by kernel_rfl) rfl (by omega) (by kernel_rfl) (by kernel_rfl) (by kernel_rfl) (fun _ _ _ h => h) (.inl ⟨by kernel_rfl, fun w' hw' => by obtain ⟨u0, u4⟩ := hw'; go_simp⟩) hS ?_
  simp only [Act.put, List.setIfInBounds_toArray, List.set_cons_zero, List.set_cons_succ]
  refine HL_take (i := 6) (.pointer (some ⟨g, 0, none⟩)) (by kernel_rfl) rfl (by omega) (by kernel_rfl) (by kernel_rfl) (by kernel_rfl) (fun _ _ _ h => h) (.inl ⟨by kernel_rfl, fun w' hw' => by obtain ⟨u0, u4⟩ := hw'; go_simp⟩) hS ?_
  simp only [Act.put, List.setIfInBounds_toArray, List.set_cons_zero, List.set_cons_succ]
  refine HL_take (i := 8) (.pointer (some ⟨g, 0, none⟩)) (by kernel_rfl) rfl (by omega) (by kernel_rfl) (by kernel_rfl) (by kernel_rfl) (fun _ _ _ h => h) (.inl ⟨by kernel_rfl, fun w' hw' => by obtain ⟨u0, u4⟩ := hw'; go_simp⟩) hS ?_
  simp only [Act.put, List.setIfInBounds_toArray, List.set_cons_zero, List.set_cons_succ]
  refine HL_take (i := 10) (.pointer (some ⟨g, 0, none⟩)) (by kernel_rfl) rfl (by omega) (by kernel_rfl) (by kernel_rfl) (by kernel_rfl) (fun _ _ _ h => h) (.inl ⟨by kernel_rfl, fun w' hw' => by obtain ⟨u0, u4⟩ := hw'; go_simp⟩) hS ?_
  simp only [Act.put, List.setIfInBounds_toArray, List.set_cons_zero, List.set_cons_succ]
  refine HL_one (i := 7) rfl (by omega) (by kernel_rfl) rfl ?_
  refine wp_enter (f := 49) (args := #[.pointer (some ⟨g, 0, none⟩)]) (by simp [execOp, resolve]; rfl) ?_
  refine (HC1 w.drew hx0 hF0).mono ?_
  rintro e w1 ⟨rfl, hx1, hb1⟩
  have hB1 : But g w.heap.size w w1 := hB0.trans (hb1.mono hB0.size)
  have hbx1 : BoxR w1 bx g := (hB1.2.2.2.2 bx (Array.getElem?_eq_some_iff.1 HBx.out).1 hne).trans HBx.out
  have hF1 : Fl w1 s l := ⟨HFn.out, hFle, hFlim, HFl.out w1 hB1⟩
  have d1 : w1.cell? ⟨g, 4, none⟩ = some s.M := hx1.cM
  refine ⟨_, rfl, ⟨hbx1.cell, d1⟩, ?_⟩
  simp only [Act.put, List.setIfInBounds_toArray, List.set_cons_zero, List.set_cons_succ]
  refine HL_one (i := 9) rfl (by omega) (by kernel_rfl) rfl ?_
  refine wp_enter (f := 49) (args := #[.pointer (some ⟨g, 0, none⟩)]) (by simp [execOp, resolve]; rfl) ?_
  refine (HC2 w1 hx1 hF1).mono ?_
  rintro e w2 ⟨rfl, hx2, hb2⟩
  have hB2 : But g w.heap.size w w2 := hB1.trans (hb2.mono hB1.size)
  have hbx2 : BoxR w2 bx g := (hB2.2.2.2.2 bx (Array.getElem?_eq_some_iff.1 HBx.out).1 hne).trans HBx.out
  have hF2 : Fl w2 s l := ⟨HFn.out, hFle, hFlim, HFl.out w2 hB2⟩
  have d2 : w2.cell? ⟨g, 4, none⟩ = some s.M := hx2.cM
  refine ⟨_, rfl, ⟨hbx2.cell, d2⟩, ?_⟩
  simp only [Act.put, List.setIfInBounds_toArray, List.set_cons_zero, List.set_cons_succ]
  refine HL_one (i := 11) rfl (by omega) (by kernel_rfl) rfl ?_
  refine wp_enter (f := 49) (args := #[.pointer (some ⟨g, 0, none⟩)]) (by simp [execOp, resolve]; rfl) ?_
  refine (HC3 w2 hx2 hF2).mono ?_
  rintro e w3 ⟨rfl, hx3, hb3⟩
  have hB3 : But g w.heap.size w w3 := hB2.trans (hb3.mono hB2.size)
  have hbx3 : BoxR w3 bx g := (hB3.2.2.2.2 bx (Array.getElem?_eq_some_iff.1 HBx.out).1 hne).trans HBx.out
  have hF3 : Fl w3 s l := ⟨HFn.out, hFle, hFlim, HFl.out w3 hB3⟩
  have d3 : w3.cell? ⟨g, 4, none⟩ = some s.M := hx3.cM
  refine ⟨_, rfl, ⟨hbx3.cell, d3⟩, ?_⟩
  simp only [Act.put, List.setIfInBounds_toArray, List.set_cons_zero, List.set_cons_succ]
  have HAPP := appM_step w w3 g bx B s x3 ms (⟨(n1 : Nat), (n2 : Nat), (n3 : Nat)⟩ : Mg) hx3 (HRow.out.kt (hB3.kt hRB (by decide))) (hB3.mono hB) (hB3.kt hRB (by decide)) hbx3 (Nat.le_trans hB hB3.size) hgB hn
  refine HL_one (i := 12) rfl (by omega) (by kernel_rfl) rfl ?_
  refine wp_value (v := .agg #[.int .i64 (n1 : Nat), .int .i64 (n2 : Nat), .int .i64 (n3 : Nat)]) (w' := w3) (by go_simp) ?_
  refine ⟨⟨hbx3.cell, d3⟩, ?_⟩
  simp only [Act.put, List.setIfInBounds_toArray, List.set_cons_zero, List.set_cons_succ]
  refine HL_one (i := 13) rfl (by omega) (by kernel_rfl) rfl ?_
  refine wp_value (v := .slice (some ⟨w3.heap.size, 0, none⟩) 1 1) (w' := w3.alloc (.cells #[.int .i64 (n1 : Nat), .int .i64 (n2 : Nat), .int .i64 (n3 : Nat)] 50)) (by go_simp) ?_
  refine ⟨⟨cell_new hbx3.cell _, cell_new d3 _⟩, ?_⟩
  simp only [Act.put, List.setIfInBounds_toArray, List.set_cons_zero, List.set_cons_succ]
  refine HL_one (i := 14) rfl (by omega) (by kernel_rfl) rfl ?_
  refine wp_append (.tmp 6) (.tmp 14) 43 43 (by kernel_rfl) (s.M) (.slice (some ⟨w3.heap.size, 0, none⟩) 1 1) (by go_simp) (by go_simp) (AppM w g bx B s x3 (ms ++ [(⟨(n1 : Nat), (n2 : Nat), (n3 : Nat)⟩ : Mg)])) (by exact HAPP) ?_
  rintro v5 w5 ⟨r1, r2, r3, r4, r5, gg, cp, rfl⟩
  rw [List.length_append, List.length_singleton] at r2
  have f3 := r1.free 4
  have e3 : w5.cell? ⟨g, 4, none⟩ = some s.M := r1.cM
  refine ⟨⟨r5.cell, e3⟩, ?_⟩
  simp only [Act.put, List.setIfInBounds_toArray, List.set_cons_zero, List.set_cons_succ]
  refine ⟨by kernel_rfl, ?_⟩
  simp only [List.drop_succ_cons, List.drop_zero]
  go_wp2_with fail
  go_end0
  refine ⟨rfl, ⟨r3.setCell 4 _, r4.trans (r1.setkt (T := 3) (by decide) 4 _), (Below.heap_setCell _ _ _ bx (fun e => hne e)).trans r5⟩, (⟨(n1 : Nat), (n2 : Nat), (n3 : Nat)⟩ : Mg), _, x3, hst, r1.setM4 _, RowM.kt r2 (r1.setkt (T := 50) (by decide) 4 _)⟩
end Go.Proofs.YtplmmamebfpcjaaDoor
end
section
/- The closure that reads one span: its contract. -/
namespace Go.Proofs.YtplmmamebfpcjaaDoor
open Go.RowKit Go.Sort Go.Joins
set_option linter.unusedVariables false
set_option maxRecDepth 100000
set_option linter.unusedSimpArgs false
theorem spP_step (l : List UInt8) (q : Nat) : StepOf (spP l q) ⟨((numX l 0 1114111 14 (.ok q)).1 : Nat), ((numX l 0 1114111 14 (numX l 0 1114111 14 (.ok q)).2).1 : Nat)⟩ (numX l 0 1114111 14 (numX l 0 1114111 14 (.ok q)).2).2 := by
  unfold spP endP
  cases h1 : numP l 0 1114111 14 q with
  | error e => rw [numX_no h1, numX_error]; rfl
  | ok k1 =>
    obtain ⟨n1, q1⟩ := k1
    rw [numX_ok h1]
    simp only [andP]
    cases h2 : numP l 0 1114111 14 q1 with
    | error e => rw [numX_no h2]; rfl
    | ok k2 =>
      obtain ⟨n2, q2⟩ := k2
      rw [numX_ok h2]
      exact ⟨rfl, rfl⟩
/-- A variable that holds a list of spans. -/
def BoxL (w : World) (b : Nat) (v : Value) : Prop := w.heap[b]? = some (.cells #[v] 41 (0, 0))
theorem BoxL.cell {w : World} {b : Nat} {v : Value} (h : BoxL w b v) : w.cell? ⟨b, 0, none⟩ = some v := (cell_of_block h 0).trans rfl
theorem BoxL.free {w : World} {b : Nat} {v : Value} (h : BoxL w b v) : w.frozen? ⟨b, 0, none⟩ = false := unfrozen_of_block h 0
theorem BoxL.kt {w w' : World} {b : Nat} {v : Value} (h : BoxL w b v) (hk : KT 41 w w') : BoxL w' b v := hk _ _ _ h
theorem BoxL.set {w : World} {b : Nat} {v : Value} (h : BoxL w b v) (u : Value) : BoxL (w.setCell ⟨b, 0, none⟩ u) b u := by
  have := block_setCell h (i := 0) u
  unfold BoxL; rw [this]; rfl
theorem set_kt2 {w : World} {b : Nat} {T T2 : TypeId} {cur : Array Value} {z : Nat × Nat} (h : w.heap[b]? = some (.cells cur T2 z)) (hT : T ≠ T2) (o : Nat) (v : Value) : KT T w (w.setCell ⟨b, o, none⟩ v) := by
  intro i c z' hi
  refine (Below.heap_setCell _ _ _ i ?_).trans hi
  rintro rfl
  rw [h] at hi
  simp at hi
  exact hT hi.2.1.symm
def AppS (w : World) (g bx B b6 : Nat) (v0 : Value) (s : RS) (x : Except Er Nat) (l : List Sp) (v : Value) (w' : World) : Prop := Rx w' g s x ∧ RowS w' B v l ∧ But g B w w' ∧ KT 3 w w' ∧ BoxR w' bx g ∧ BoxL w' b6 v0 ∧ ∃ gg cap, v = .slice (some ⟨gg, 0, none⟩) l.length cap
theorem appS_step (w w1 : World) (g bx B b6 : Nat) (v0 : Value) (s : RS) (x : Except Er Nat) (sps : List Sp) (t : Sp) (hx : Rx w1 g s x) (hrow : RowS w1 B v0 sps) (hb : But g B w w1) (hk : KT 3 w w1) (hbx : BoxR w1 bx g) (hbl : BoxL w1 b6 v0) (hB : B ≤ w1.heap.size) (hgB : g < B) (hn : sps.length ≤ 4194304) :
    ∃ v' w', (Builtin.append_ #[41, 41] 41 #[v0, .slice (some ⟨w1.heap.size, 0, none⟩) 1 1]).run Tryd.prog (w1.alloc (.cells #[.int .i32 t.lo, .int .i32 t.hi] 40)) = .ok v' w' ∧ AppS w g bx B b6 v0 s x (sps ++ [t]) v' w' := by
  have hbe := box_below w1 (.cells #[.int .i32 t.lo, .int .i32 t.hi] 40)
  have hrow2 : RowS (w1.alloc (.cells #[.int .i32 t.lo, .int .i32 t.hi] 40)) B v0 sps := hrow.kt (KT.of_below hbe)
  obtain ⟨v', w', h1, h2, h3⟩ := app_span _ B v0 sps t w1.heap.size 1 hrow2 (heap_alloc_new _ _) (Nat.le_trans hB hbe.size) hn
  have g1 := fun T (hT : T ≠ 40) => grown_kt (T := T) (T2 := 40) (k := 2) (xs := cellsS sps) h3 hrow2 hT
  have g2 := hb.alloc hB (.cells #[.int .i32 t.lo, .int .i32 t.hi] 40)
  have g3 := g2.grow (T := 40) (k := 2) (xs := cellsS sps) h3 hrow2 (Nat.le_refl _) (Nat.le_trans hB hbe.size)
  have g4 := own_form (T := 40) (k := 2) (xs := cellsS (sps ++ [t])) h2 (by simp)
  exact ⟨v', w', h1, (hx.below hbe).kt (g1 _ (by decide)) (g1 _ (by decide)), h2, g3, hk.trans ((KT.of_below hbe).trans (g1 _ (by decide))), (hbx.kt (KT.of_below hbe)).kt (g1 _ (by decide)), (hbl.kt (KT.of_below hbe)).kt (g1 _ (by decide)), g4⟩
set_option maxHeartbeats 4000000 in
theorem spansC_any (g bx B b6 q : Nat) (v0 : Value) (s : RS) (l : List UInt8) (sps : List Sp) (w : World) (hbx : BoxR w bx g) (hbl : BoxL w b6 v0) (hr : Rx w g s (.ok q)) (hrow : RowS w B v0 sps) (hF : Fl w s l) (hw : ∃ w0 : World, Below w0.heap.size w0 w ∧ Oc.BS w0 s.a l ∧ w0.heap.size ≤ g) (hB : B ≤ w.heap.size) (hgB : g < B) (hb6 : B ≤ b6) (hn : sps.length ≤ 4194304) :
    Calls Tryd.prog 50 #[.pointer (some ⟨b6, 0, none⟩), .pointer (some ⟨bx, 0, none⟩)] w fun e w' => e = .returned (.tuple #[]) ∧ CloP w g bx B w' ∧ ∃ t v x', StepOf (spP l q) t x' ∧ Rx w' g s x' ∧ BoxL w' b6 v ∧ RowS w' B v (sps ++ [t]) := by
  have hst := spP_step l q
  have hnd : Below w.heap.size w w.drew := (Below.refl _ _).drew
  obtain ⟨⟨n1, x1⟩, hq1⟩ : ∃ r, r = numX l 0 1114111 14 (.ok q) := ⟨_, rfl⟩
  have HC1 := fun wx h1 h2 => end_uni g s l (.ok q) wx h1 h2
  rw [← hq1] at hst HC1
  obtain ⟨⟨n2, x2⟩, hq2⟩ : ∃ r, r = numX l 0 1114111 14 x1 := ⟨_, rfl⟩
  have HC2 := fun wx h1 h2 => end_uni g s l x1 wx h1 h2
  simp only at hst
  rw [← hq2] at hst HC2
  simp only at hst HC1 HC2
  have c0 := hbx.cell
  have c4 := hbl.cell
  have HBl : Hid (BoxL w b6 v0) := hbl
  have hne : bx ≠ g := by
    rintro rfl
    have h1 := hbx
    unfold BoxR at h1
    have h2 := hr
    unfold Rx RB at h2
    rw [h1] at h2
    simp at h2
  have hne6 : bx ≠ b6 := by
    rintro rfl
    have h1 := hbx
    unfold BoxR at h1
    have h2 := hbl
    unfold BoxL at h2
    rw [h1] at h2
    simp at h2
  clear hbl
  have HRow : Hid (RowS w B v0 sps) := hrow
  have HBx : Hid (BoxR w bx g) := hbx
  have HFn : Hid (s.n = l.length) := hF.n
  have hFle := hF.le
  have hFlim := hF.lim
  have HFl : Hid (∀ wx, But g w.heap.size w wx → Oc.BS wx s.a l) := fun wx hwx => by
    obtain ⟨w0, k1, k2, k3⟩ := hw
    exact k2.below (k1.trans (hwx.below (B' := w0.heap.size) k1.size k3))
  have hx0 : Rx w.drew g s (.ok q) := Rx.below hr hnd
  have hF0 : Fl w.drew s l := ⟨hF.n, hF.le, hF.lim, hF.at'.below hnd⟩
  have hB0 : But g w.heap.size w w.drew := But.of_below hnd
  have hRB : RB w g { s with p := q, no := none } := hr
  skip
  clear hr hrow hbx hF hw hq1 hq2
  go_enter Tryd.func50, Tryd.ntmps50
  go_wp2_with fail
  refine wp_region_heldtail 8 (fun w' => w'.cell? ⟨bx, 0, none⟩ = some (.pointer (some ⟨g, 0, none⟩)) ∧ w'.cell? ⟨b6, 0, none⟩ = some v0) (by kernel_rfl) (by kernel_rfl) ?_
  have hS : (w.drew.cell? ⟨bx, 0, none⟩ = some (.pointer (some ⟨g, 0, none⟩)) ∧ w.drew.cell? ⟨b6, 0, none⟩ = some v0) := ⟨by simpa using c0, by simpa using c4⟩
  refine HL_take (i := 0) (v0) (by kernel_rfl) rfl (by omega) (by kernel_rfl) (by kernel_rfl) (by kernel_rfl) (fun _ _ _ h => h) (.inl ⟨by kernel_rfl, fun w' hw' => by obtain ⟨u0, u4⟩ := hw'; go_simp⟩) hS ?_
  simp only [Act.put, List.setIfInBounds_toArray, List.set_cons_zero, List.set_cons_succ]
  refine HL_take (i := 1) (.pointer (some ⟨g, 0, none⟩)) (by kernel_rfl) rfl (by omega) (by kernel_rfl) (by kernel_rfl) (by kernel_rfl) (fun _ _ _ h => h) (.inl ⟨by kernel_rfl, fun w' hw' => by obtain ⟨u0, u4⟩ := hw'; go_simp⟩) hS ?_
  simp only [Act.put, List.setIfInBounds_toArray, List.set_cons_zero, List.set_cons_succ]
  refine HL_take (i := 3) (.pointer (some ⟨g, 0, none⟩)) (by kernel_rfl) rfl (by omega) (by kernel_rfl) (by kernel_rfl) (by kernel_rfl) (fun _ _ _ h => h) (.inl ⟨by kernel_rfl, fun w' hw' => by obtain ⟨u0, u4⟩ := hw'; go_simp⟩) hS ?_
  simp only [Act.put, List.setIfInBounds_toArray, List.set_cons_zero, List.set_cons_succ]
  refine HL_one (i := 2) rfl (by omega) (by kernel_rfl) rfl ?_
  refine wp_enter (f := 51) (args := #[.pointer (some ⟨g, 0, none⟩)]) (by simp [execOp, resolve]; rfl) ?_
  refine (HC1 w.drew hx0 hF0).mono ?_
  rintro e w1 ⟨rfl, hx1, hb1⟩
  have hB1 : But g w.heap.size w w1 := hB0.trans (hb1.mono hB0.size)
  have hbx1 : BoxR w1 bx g := (hB1.2.2.2.2 bx (Array.getElem?_eq_some_iff.1 HBx.out).1 hne).trans HBx.out
  have hF1 : Fl w1 s l := ⟨HFn.out, hFle, hFlim, HFl.out w1 hB1⟩
  have hbl1 : BoxL w1 b6 v0 := HBl.out.kt (hB1.kt hRB (by decide))
  refine ⟨_, rfl, ⟨hbx1.cell, hbl1.cell⟩, ?_⟩
  simp only [Act.put, List.setIfInBounds_toArray, List.set_cons_zero, List.set_cons_succ]
  refine HL_one (i := 4) rfl (by omega) (by kernel_rfl) rfl ?_
  refine wp_enter (f := 51) (args := #[.pointer (some ⟨g, 0, none⟩)]) (by simp [execOp, resolve]; rfl) ?_
  refine (HC2 w1 hx1 hF1).mono ?_
  rintro e w2 ⟨rfl, hx2, hb2⟩
  have hB2 : But g w.heap.size w w2 := hB1.trans (hb2.mono hB1.size)
  have hbx2 : BoxR w2 bx g := (hB2.2.2.2.2 bx (Array.getElem?_eq_some_iff.1 HBx.out).1 hne).trans HBx.out
  have hF2 : Fl w2 s l := ⟨HFn.out, hFle, hFlim, HFl.out w2 hB2⟩
  have hbl2 : BoxL w2 b6 v0 := HBl.out.kt (hB2.kt hRB (by decide))
  refine ⟨_, rfl, ⟨hbx2.cell, hbl2.cell⟩, ?_⟩
  simp only [Act.put, List.setIfInBounds_toArray, List.set_cons_zero, List.set_cons_succ]
  have HAPP := appS_step w w2 g bx B b6 v0 s x2 sps (⟨(n1 : Nat), (n2 : Nat)⟩ : Sp) hx2 (HRow.out.kt (hB2.kt hRB (by decide))) (hB2.mono hB) (hB2.kt hRB (by decide)) hbx2 hbl2 (Nat.le_trans hB hB2.size) hgB hn
  refine HL_one (i := 5) rfl (by omega) (by kernel_rfl) rfl ?_
  refine wp_value (v := .agg #[.int .i32 (n1 : Nat), .int .i32 (n2 : Nat)]) (w' := w2) (by go_simp) ?_
  refine ⟨⟨hbx2.cell, hbl2.cell⟩, ?_⟩
  simp only [Act.put, List.setIfInBounds_toArray, List.set_cons_zero, List.set_cons_succ]
  refine HL_one (i := 6) rfl (by omega) (by kernel_rfl) rfl ?_
  refine wp_value (v := .slice (some ⟨w2.heap.size, 0, none⟩) 1 1) (w' := w2.alloc (.cells #[.int .i32 (n1 : Nat), .int .i32 (n2 : Nat)] 40)) (by go_simp) ?_
  refine ⟨⟨cell_new hbx2.cell _, cell_new hbl2.cell _⟩, ?_⟩
  simp only [Act.put, List.setIfInBounds_toArray, List.set_cons_zero, List.set_cons_succ]
  refine HL_one (i := 7) rfl (by omega) (by kernel_rfl) rfl ?_
  refine wp_append (.tmp 2) (.tmp 8) 41 41 (by kernel_rfl) (v0) (.slice (some ⟨w2.heap.size, 0, none⟩) 1 1) (by go_simp) (by go_simp) (AppS w g bx B b6 v0 s x2 (sps ++ [(⟨(n1 : Nat), (n2 : Nat)⟩ : Sp)])) (by exact HAPP) ?_
  rintro v5 w5 ⟨r1, r2, r3, r4, r5, r6, gg, cp, rfl⟩
  rw [List.length_append, List.length_singleton] at r2
  have f3 := r6.free
  have e3 := r6.cell
  refine ⟨⟨r5.cell, e3⟩, ?_⟩
  simp only [Act.put, List.setIfInBounds_toArray, List.set_cons_zero, List.set_cons_succ]
  refine ⟨by kernel_rfl, ?_⟩
  simp only [List.drop_succ_cons, List.drop_zero]
  go_wp2_with fail
  go_end0
  have k6 := fun T (hT : T ≠ 41) => set_kt2 (T := T) r6 hT 0 (.slice (some ⟨gg, 0, none⟩) (sps.length + 1) cp)
  refine ⟨rfl, ⟨r3.above (p := ⟨b6, 0, none⟩) hb6 _, r4.trans (k6 _ (by decide)), (Below.heap_setCell _ _ _ bx (fun e => hne6 e)).trans r5⟩, (⟨(n1 : Nat), (n2 : Nat)⟩ : Sp), _, x2, hst, r1.kt (k6 _ (by decide)) (k6 _ (by decide)), r6.set _, RowS.kt r2 (k6 _ (by decide))⟩
end Go.Proofs.YtplmmamebfpcjaaDoor
end
section
/- What a reader's list of rows is on its way. -/
namespace Go.Proofs.YtplmmamebfpcjaaDoor
open Go.RowKit Go.Sort Go.Joins
set_option linter.unusedVariables false
set_option maxRecDepth 100000
theorem many_step {α : Type} {f : Nat → Except Er (α × Nat)} {k p : Nat} {rows : List (α × Nat)} {q : Nat} {t : α} {x' : Except Er Nat} (h : manyP f k p = .ok (rows, q)) (hs : StepOf (f q) t x') :
    (∃ r, x' = .ok r ∧ manyP f (k + 1) p = .ok (rows ++ [(t, q)], r)) ∨ (∃ e, x' = .error e ∧ manyP f (k + 1) p = .error e) := by
  rw [manyP_go h]
  cases hf : f q with
  | error e => rw [hf] at hs; exact .inr ⟨e, hs, rfl⟩
  | ok a =>
    obtain ⟨a, r⟩ := a
    rw [hf] at hs
    obtain ⟨rfl, h2⟩ := hs
    exact .inl ⟨r, h2, rfl⟩
/-- The same bytes, a list of words of some kind. -/
structure SameF (s s' : RS) : Prop where
  a : s'.a = s.a
  n : s'.n = s.n
  c : s'.c = s.c
  W : ∃ x m k, s'.W = .slice x m k
theorem updP_same (P : Nat → Value) (k : Nat) (u v : Value) : updP (updP P k u) k v = updP P k v := by
  funext i
  unfold updP
  by_cases h : i = k
  · rw [if_pos h, if_pos h]
  · rw [if_neg h, if_neg h, if_neg h]
theorem own_slice {w : World} {base : Nat} {T : TypeId} {k : Nat} {v : Value} {n : Nat} {xs : List Value} (h : w.ownsRow base T k v n xs) : ∃ x c, v = .slice x n c := by
  rcases h.2 with ⟨rfl, rfl⟩ | ⟨g, cap, cur, hv, _⟩
  · exact ⟨none, 0, rfl⟩
  · exact ⟨_, cap, hv⟩
theorem BoxR.ne {w : World} {b g g2 : Nat} {s : RS} {x : Except Er Nat} (h : BoxR w b g2) (hx : Rx w g s x) : b ≠ g := by
  obtain ⟨_, _, hr⟩ := hx.form
  rintro rfl
  unfold BoxR at h
  unfold RB at hr
  rw [h] at hr
  simp at hr
def AppI (w : World) (g B q : Nat) (s : RS) (l : List Nat) (v : Value) (w' : World) : Prop := Rx w' g s (.ok q) ∧ RowI w' B v l ∧ But g B w w' ∧ (∀ T, T ≠ 3 → KT T w w') ∧ ∃ gg cap, v = .slice (some ⟨gg, 0, none⟩) l.length cap
theorem appI_step (w w1 : World) (g B q : Nat) (s : RS) (pv : Value) (pl : List Nat) (hx : Rx w1 g s (.ok q)) (hrow : RowI w1 B pv pl) (hb : But g B w w1) (hk : ∀ T, T ≠ 3 → KT T w w1) (hB : B ≤ w1.heap.size) (hn : pl.length ≤ 4194304) :
    ∃ v' w', (Builtin.append_ #[58, 58] 58 #[pv, .slice (some ⟨w1.heap.size, 0, none⟩) 1 1]).run Tryd.prog (w1.alloc (.cells #[.int .i64 (q : Nat)] 3)) = .ok v' w' ∧ AppI w g B q s (pl ++ [q]) v' w' := by
  have hbe := box_below w1 (.cells #[.int .i64 (q : Nat)] 3)
  have hrow2 : RowI (w1.alloc (.cells #[.int .i64 (q : Nat)] 3)) B pv pl := hrow.kt (KT.of_below hbe)
  obtain ⟨v', w', h1, h2, h3⟩ := app_int _ B pv pl q w1.heap.size 1 hrow2 (heap_alloc_new _ _) (Nat.le_trans hB hbe.size) hn
  have g1 := fun T (hT : T ≠ 3) => grown_kt (T := T) (T2 := 3) (k := 1) (xs := cellsI pl) h3 hrow2 hT
  have g2 := hb.alloc hB (.cells #[.int .i64 (q : Nat)] 3)
  have g3 := g2.grow (T := 3) (k := 1) (xs := cellsI pl) h3 hrow2 (Nat.le_refl _) (Nat.le_trans hB hbe.size)
  have g4 := own_form (T := 3) (k := 1) (xs := cellsI (pl ++ [q])) h2 (by simp)
  exact ⟨v', w', h1, (hx.below hbe).kt (g1 _ (by decide)) (g1 _ (by decide)), h2, g3, fun T hT => (hk T hT).trans ((KT.of_below hbe).trans (g1 T hT)), g4⟩
theorem Rx.setPk {w : World} {g q : Nat} {s : RS} (h : Rx w g s (.ok q)) {k : Nat} (hk : k < 6) (v : Value) : Rx (w.setCell ⟨g, 8 + k, none⟩ v) g { s with P := updP s.P k v } (.ok q) := RB.setPl h hk v
end Go.Proofs.YtplmmamebfpcjaaDoor
end
section
/- reader.rows, list 4: its contract. -/
namespace Go.Proofs.YtplmmamebfpcjaaDoor
open Go.RowKit Go.Sort Go.Joins
set_option linter.unusedVariables false
set_option maxRecDepth 100000
set_option linter.unusedSimpArgs false
def RI4 (w : World) (g bx B p : Nat) (s : RS) (l : List UInt8) (k : Nat) (wr : World) : Prop :=
  (∃ rows q v pv, manyP (wordP l) k p = .ok (rows, q) ∧ Rx wr g { s with W := v, P := updP s.P 4 pv } (.ok q) ∧ RowW wr B v (rows.map Prod.fst) ∧ RowI wr B pv (rows.map Prod.snd) ∧ BoxR wr bx g ∧ But g B w wr) ∨
  (∃ e s', manyP (wordP l) k p = .error e ∧ RErr wr g s' e ∧ SameF s s' ∧ BoxR wr bx g ∧ But g B w wr)
set_option maxHeartbeats 4000000 in
theorem rows4_any (g bx B p n : Nat) (s : RS) (l : List UInt8) (w : World) (hn : n ≤ 4096) (hbx : BoxR w bx g) (hr : Rx w g s (.ok p)) (hp0 : s.P 4 = .slice none 0 0) (hv0 : s.W = .slice none 0 0) (hF : Fl w s l) (hw : ∃ w0 : World, Below w0.heap.size w0 w ∧ Oc.BS w0 s.a l ∧ w0.heap.size ≤ g) (hB : B ≤ w.heap.size) (hgB : g < B) :
    Calls Tryd.prog 45 #[.pointer (some ⟨g, 0, none⟩), .int .i64 4, .int .i64 (n : Nat), .func (.func 46) #[] #[.pointer (some ⟨bx, 0, none⟩)]] w fun e w' => e = .returned (.tuple #[]) ∧ RI4 w g bx B p s l n w' := by
  have hFn : Hid (s.n = l.length) := hF.n
  have hFle := hF.le
  have hFlim := hF.lim
  have hw' : Hid (∃ w0 : World, Below w0.heap.size w0 w ∧ Oc.BS w0 s.a l ∧ w0.heap.size ≤ g) := hw
  have HFl : Hid (∀ wx, But g B w wx → Oc.BS wx s.a l) := fun wx hwx => by
    obtain ⟨w0, k1, k2, k3⟩ := hw
    exact k2.below (k1.trans (hwx.below (B' := w0.heap.size) (by have := k1.size; omega) k3))
  have hI0 : RI4 w g bx B p s l 0 w := by
    refine .inl ⟨[], p, .slice none 0 0, .slice none 0 0, rfl, ?_, RowW.nil w B, RowI.nil w B, hbx, But.refl _ _ _⟩
    have e : { s with W := .slice none 0 0, P := updP s.P 4 (.slice none 0 0) } = s := by
      obtain ⟨sa, sn, sc, sp, no, sW, sM, sA, sB, sC, sP, sbl⟩ := s
      simp only at hp0 hv0 ⊢
      have : updP sP 4 (.slice none 0 0) = sP := by
        funext i
        unfold updP
        by_cases h : i = 4
        · rw [if_pos h, h, hp0]
        · rw [if_neg h]
      rw [this, hv0]
    rw [e]; exact hr
  have HI0 : Hid (RI4 w g bx B p s l 0 w) := hI0
  clear hI0 hr hbx hF hw hp0 hv0
  skip
  skip
  go_enter Tryd.func45, Tryd.ntmps45
  go_wp2_with fail
  obtain ⟨W0, hW0⟩ : ∃ W0, W0 = w := ⟨_, rfl⟩
  go_loopw [9] (fun i wr => ∃ k : Nat, k ≤ n ∧ i = .int .i64 (k : Nat) ∧ RI4 w g bx B p s l k wr) (fun i _ => n - (intOf i).toNat)
  case atStart => exact ⟨0, Nat.zero_le _, rfl, HI0.out⟩
  case round =>
    obtain ⟨k, hk, rfl, hI⟩ := hrel
    clear HI0
    by_cases hlt : k < n
    · rcases hI with ⟨rows, q, v, pv, hm, hx, hrow, hpl, hbx, hbut⟩ | ⟨e, s', hm, hx, hsf, hbx, hbut⟩
      · have hlen : rows.length = k := manyP_len hm
        have c2 : wr.cell? ⟨g, 2, none⟩ = some (.pointer none) := RB.c2 hx
        have c1 : wr.cell? ⟨g, 1, none⟩ = some (.int .i64 (q : Nat)) := RB.c1 hx
        have cp : wr.cell? ⟨g, 12, none⟩ = some pv := RB.c12 hx
        have hd : Below wr.heap.size wr wr.drew := (Below.refl _ _).drew
        have hBr : B ≤ wr.heap.size := Nat.le_trans hB hbut.size
        have HAPP := appI_step wr wr.drew g B q { s with W := v, P := updP s.P 4 pv } pv (rows.map Prod.snd) (Rx.below hx hd) (hpl.kt (KT.of_below hd)) (But.of_below (hd.mono hBr)) (fun T _ => KT.of_below hd) (Nat.le_trans hBr hd.size) (by simp; omega)
        have hne : bx ≠ g := hbx.ne hx
        have HX : Hid (Rx wr g { s with W := v, P := updP s.P 4 pv } (.ok q)) := hx
        have HROW : Hid (RowW wr B v (rows.map Prod.fst)) := hrow
        have HBX : Hid (BoxR wr bx g) := hbx
        have HBUT : Hid (But g B w wr) := hbut
        skip
        clear hx hrow hpl hbx hbut
        go_wp2_with fail
        refine wp_region_heldtail 16 (fun w' => w'.cell? ⟨g, 12, none⟩ = some pv ∧ w'.cell? ⟨g, 1, none⟩ = some (.int .i64 (q : Nat))) (by kernel_rfl) (by kernel_rfl) ?_
        have hS : (wr.drew.cell? ⟨g, 12, none⟩ = some pv ∧ wr.drew.cell? ⟨g, 1, none⟩ = some (.int .i64 (q : Nat))) := ⟨by simpa using cp, by simpa using c1⟩
        refine HL_take (i := 0) (.pointer (some ⟨g, 0, none⟩)) (by kernel_rfl) rfl (by omega) (by kernel_rfl) (by kernel_rfl) (by kernel_rfl) (fun _ _ _ h => h) (.inl ⟨by kernel_rfl, fun w' hw' => by obtain ⟨u0, u1⟩ := hw'; go_simp⟩) hS ?_
        simp only [Act.put, List.setIfInBounds_toArray, List.set_cons_zero, List.set_cons_succ]
        refine HL_take (i := 1) (.int .i64 4) (by kernel_rfl) rfl (by omega) (by kernel_rfl) (by kernel_rfl) (by kernel_rfl) (fun _ _ _ h => h) (.inl ⟨by kernel_rfl, fun w' hw' => by obtain ⟨u0, u1⟩ := hw'; go_simp⟩) hS ?_
        simp only [Act.put, List.setIfInBounds_toArray, List.set_cons_zero, List.set_cons_succ]
        refine HL_take (i := 2) (.pointer (some ⟨g, 0, none⟩)) (by kernel_rfl) rfl (by omega) (by kernel_rfl) (by kernel_rfl) (by kernel_rfl) (fun _ _ _ h => h) (.inl ⟨by kernel_rfl, fun w' hw' => by obtain ⟨u0, u1⟩ := hw'; go_simp⟩) hS ?_
        simp only [Act.put, List.setIfInBounds_toArray, List.set_cons_zero, List.set_cons_succ]
        refine HL_take (i := 3) (.int .i64 4) (by kernel_rfl) rfl (by omega) (by kernel_rfl) (by kernel_rfl) (by kernel_rfl) (fun _ _ _ h => h) (.inl ⟨by kernel_rfl, fun w' hw' => by obtain ⟨u0, u1⟩ := hw'; go_simp⟩) hS ?_
        simp only [Act.put, List.setIfInBounds_toArray, List.set_cons_zero, List.set_cons_succ]
        refine HL_take (i := 4) (.pointer (some ⟨g, 0, none⟩)) (by kernel_rfl) rfl (by omega) (by kernel_rfl) (by kernel_rfl) (by kernel_rfl) (fun _ _ _ h => h) (.inl ⟨by kernel_rfl, fun w' hw' => by obtain ⟨u0, u1⟩ := hw'; go_simp⟩) hS ?_
        simp only [Act.put, List.setIfInBounds_toArray, List.set_cons_zero, List.set_cons_succ]
        refine HL_take (i := 5) (.pointer (some ⟨g, 8, none⟩)) (by kernel_rfl) rfl (by omega) (by kernel_rfl) (by kernel_rfl) (by kernel_rfl) (fun _ _ _ h => h) (.inl ⟨by kernel_rfl, fun w' hw' => by obtain ⟨u0, u1⟩ := hw'; go_simp⟩) hS ?_
        simp only [Act.put, List.setIfInBounds_toArray, List.set_cons_zero, List.set_cons_succ]
        refine HL_take (i := 6) (.pointer (some ⟨g, 12, none⟩)) (by kernel_rfl) rfl (by omega) (by kernel_rfl) (by kernel_rfl) (by kernel_rfl) (fun _ _ _ h => h) (.inl ⟨by kernel_rfl, fun w' hw' => by obtain ⟨u0, u1⟩ := hw'; go_simp⟩) hS ?_
        simp only [Act.put, List.setIfInBounds_toArray, List.set_cons_zero, List.set_cons_succ]
        refine HL_take (i := 7) (pv) (by kernel_rfl) rfl (by omega) (by kernel_rfl) (by kernel_rfl) (by kernel_rfl) (fun _ _ _ h => h) (.inl ⟨by kernel_rfl, fun w' hw' => by obtain ⟨u0, u1⟩ := hw'; go_simp⟩) hS ?_
        simp only [Act.put, List.setIfInBounds_toArray, List.set_cons_zero, List.set_cons_succ]
        refine HL_take (i := 8) (.pointer (some ⟨g, 0, none⟩)) (by kernel_rfl) rfl (by omega) (by kernel_rfl) (by kernel_rfl) (by kernel_rfl) (fun _ _ _ h => h) (.inl ⟨by kernel_rfl, fun w' hw' => by obtain ⟨u0, u1⟩ := hw'; go_simp⟩) hS ?_
        simp only [Act.put, List.setIfInBounds_toArray, List.set_cons_zero, List.set_cons_succ]
        refine HL_take (i := 9) (.pointer (some ⟨g, 0, none⟩)) (by kernel_rfl) rfl (by omega) (by kernel_rfl) (by kernel_rfl) (by kernel_rfl) (fun _ _ _ h => h) (.inl ⟨by kernel_rfl, fun w' hw' => by obtain ⟨u0, u1⟩ := hw'; go_simp⟩) hS ?_
        simp only [Act.put, List.setIfInBounds_toArray, List.set_cons_zero, List.set_cons_succ]
        refine HL_take (i := 10) (.pointer (some ⟨g, 1, none⟩)) (by kernel_rfl) rfl (by omega) (by kernel_rfl) (by kernel_rfl) (by kernel_rfl) (fun _ _ _ h => h) (.inl ⟨by kernel_rfl, fun w' hw' => by obtain ⟨u0, u1⟩ := hw'; go_simp⟩) hS ?_
        simp only [Act.put, List.setIfInBounds_toArray, List.set_cons_zero, List.set_cons_succ]
        refine HL_take (i := 11) (.int .i64 (q : Nat)) (by kernel_rfl) rfl (by omega) (by kernel_rfl) (by kernel_rfl) (by kernel_rfl) (fun _ _ _ h => h) (.inl ⟨by kernel_rfl, fun w' hw' => by obtain ⟨u0, u1⟩ := hw'; go_simp⟩) hS ?_
        simp only [Act.put, List.setIfInBounds_toArray, List.set_cons_zero, List.set_cons_succ]
        refine HL_take (i := 14) (.pointer (some ⟨g, 0, none⟩)) (by kernel_rfl) rfl (by omega) (by kernel_rfl) (by kernel_rfl) (by kernel_rfl) (fun _ _ _ h => h) (.inl ⟨by kernel_rfl, fun w' hw' => by obtain ⟨u0, u1⟩ := hw'; go_simp⟩) hS ?_
        simp only [Act.put, List.setIfInBounds_toArray, List.set_cons_zero, List.set_cons_succ]
        refine HL_take (i := 15) (.pointer (some ⟨g, 8, none⟩)) (by kernel_rfl) rfl (by omega) (by kernel_rfl) (by kernel_rfl) (by kernel_rfl) (fun _ _ _ h => h) (.inl ⟨by kernel_rfl, fun w' hw' => by obtain ⟨u0, u1⟩ := hw'; go_simp⟩) hS ?_
        simp only [Act.put, List.setIfInBounds_toArray, List.set_cons_zero, List.set_cons_succ]
        refine HL_one (i := 12) rfl (by omega) (by kernel_rfl) rfl ?_
        refine wp_value (v := .slice (some ⟨wr.heap.size, 0, none⟩) 1 1) (w' := wr.drew.alloc (.cells #[.int .i64 (q : Nat)] 3)) (by go_simp) ?_
        refine ⟨⟨cell_new hS.1 _, cell_new hS.2 _⟩, ?_⟩
        simp only [Act.put, List.setIfInBounds_toArray, List.set_cons_zero, List.set_cons_succ]
        refine HL_one (i := 13) rfl (by omega) (by kernel_rfl) rfl ?_
        refine wp_append (.tmp 23) (.tmp 28) 58 58 (by kernel_rfl) pv (.slice (some ⟨wr.heap.size, 0, none⟩) 1 1) (by go_simp) (by go_simp) (AppI wr g B q { s with W := v, P := updP s.P 4 pv } (rows.map Prod.snd ++ [q])) (by exact HAPP) ?_
        rintro v5 w5 ⟨r1, r2, r3, r4, gg, cc, rfl⟩
        have f3 := r1.free 12
        have y1 : w5.cell? ⟨g, 1, none⟩ = some (.int .i64 (q : Nat)) := RB.c1 r1
        have e3 : w5.cell? ⟨g, 12, none⟩ = some pv := RB.c12 r1
        refine ⟨⟨e3, y1⟩, ?_⟩
        simp only [Act.put, List.setIfInBounds_toArray, List.set_cons_zero, List.set_cons_succ]
        refine ⟨by kernel_rfl, ?_⟩
        simp only [List.drop_succ_cons, List.drop_zero]
        clear HAPP hS c2 c1 cp
        have R1 : Hid (Rx w5 g { s with W := v, P := updP s.P 4 pv } (.ok q)) := r1
        have R2 : Hid (RowI w5 B (.slice (some ⟨gg, 0, none⟩) (rows.map Prod.snd ++ [q]).length cc) (rows.map Prod.snd ++ [q])) := r2
        have R3 : Hid (But g B wr w5) := r3
        have R4 : Hid (∀ T, T ≠ 3 → KT T wr w5) := r4
        clear r1 r2 r3 r4 y1
        go_wp2_with fail
        obtain ⟨u5, hu5⟩ : ∃ u5 : Value, u5 = .slice (some ⟨gg, 0, none⟩) (rows.map Prod.snd ++ [q]).length cc := ⟨_, rfl⟩
        have hu5' : (Value.slice (some ⟨gg, 0, none⟩) (rows.length + 1) cc) = u5 := by rw [hu5]; simp
        rw [← hu5] at R2
        first | rw [hu5'] | (rw [show rows.length = k from hlen] at hu5'; rw [hu5']) | skip
        obtain ⟨w6, hw6⟩ : ∃ w6, w6 = w5.setCell ⟨g, 12, none⟩ u5 := ⟨_, rfl⟩
        rw [← hw6]
        have x6 : Rx w6 g { s with W := v, P := updP s.P 4 u5 } (.ok q) := by
          rw [hw6]
          have := R1.out.setPk (k := 4) (by omega) u5
          simp only [updP_same] at this
          exact this
        have b6' : But g B w w6 := by rw [hw6]; exact (HBUT.out.trans R3.out).setCell 12 u5
        have k6 : ∀ T, T ≠ 3 → T ≠ 61 → KT T wr w6 := fun T h1 h2 => by rw [hw6]; exact (R4.out T h1).trans (R1.out.setkt h2 12 u5)
        have pl6 : RowI w6 B u5 (rows.map Prod.snd ++ [q]) := by rw [hw6]; exact R2.out.kt (R1.out.setkt (T := 3) (by decide) 12 u5)
        have row6 : RowW w6 B v (rows.map Prod.fst) := HROW.out.kt (k6 _ (by decide) (by decide))
        have bx6 : BoxR w6 bx g := HBX.out.kt (k6 _ (by decide) (by decide))
        skip
        refine (wordsC_any g bx B q { s with W := v, P := updP s.P 4 u5 } l (rows.map Prod.fst) w6 bx6 x6 row6 ⟨hFn.out, hFle, hFlim, HFl.out w6 b6'⟩ (by obtain ⟨w0, q1, q2, q3⟩ := hw'.out; exact ⟨w0, q1.trans (b6'.below (B' := w0.heap.size) (by have := q1.size; omega) q3), q2, q3⟩) (Nat.le_trans hB b6'.size) hgB (by simp; omega)).mono ?_
        rintro e w7 ⟨rfl, ⟨c1, c2, c3⟩, t, v7, x', hst, x7, row7⟩
        have b7 : But g B w w7 := b6'.trans c1
        have hI7 : RI4 w g bx B p s l (k + 1) w7 := by
          rcases many_step hm hst with ⟨r, rfl, hm2⟩ | ⟨e, rfl, hm2⟩
          · exact .inl ⟨rows ++ [(t, q)], r, v7, u5, hm2, x7, (by rw [List.map_append]; exact row7), (by rw [List.map_append]; exact pl6.kt c2), c3, b7⟩
          · exact .inr ⟨e, _, hm2, x7, ⟨rfl, rfl, rfl, (by obtain ⟨x, c, hv⟩ := own_slice (T := 9) (k := 1) (n := (rows.map Prod.fst ++ [t]).length) (xs := cellsW (rows.map Prod.fst ++ [t])) row7; exact ⟨x, _, c, hv⟩)⟩, c3, b7⟩
        have HI7 : Hid (RI4 w g bx B p s l (k + 1) w7) := hI7
        clear hI7 x6 k6 pl6 row6 bx6 c1 c2 c3 hst x7 row7 b7 hw6
        go_wp2_with fail
        go_roundw
        case rel => exact ⟨k + 1, by omega, by go_num, HI7.out⟩
        case measure => simp only [intOf]; omega
      · have HE : Hid (RErr wr g s' e) := hx
        obtain ⟨p1, N, k1, k3, k4⟩ := hx
        have c2 := k1.c2
        clear k1 k4
        go_wp2_with fail
        exact bodyPost_ret (v := .tuple #[]) (results_none rfl _ _ _) rfl ⟨rfl, .inr ⟨e, s', manyP_stop hm n (by omega), HE.out, hsf, hbx, hbut⟩⟩
    · have hkn : k = n := by omega
      rw [hkn] at hI
      have HI : Hid (RI4 w g bx B p s l n wr) := hI
      clear hI
      go_wp2_with fail
      go_end0
      exact ⟨rfl, HI.out⟩
end Go.Proofs.YtplmmamebfpcjaaDoor
end
