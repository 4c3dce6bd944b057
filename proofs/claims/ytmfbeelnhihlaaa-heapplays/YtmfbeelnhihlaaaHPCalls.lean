/- heap's Len, Least, Push, Pop: their contracts. -/
import Derived.Test.YtmfbeelnhihlaaaHPMove
import Derived.Test.YtmfbeelnhihlaaaHGrow
import Derived.Test.YtmfbeelnhihlaaaRHeld
import Derived.Test.YtmfbeelnhihlaaaURegion
namespace Go.Proofs.Ytmfbeelnhihlaaa.HP
open Go.RowKit Go.Joins Go.Sort
set_option linter.unusedVariables false
set_option linter.unusedSimpArgs false
set_option maxRecDepth 100000
/-- A heap of one's own: its block is g, its things lie in v. -/
structure HeapAt (w : World) (base g : Nat) (v : Value) (L : List El) : Prop where
  low : base ≤ g
  at_ : HpAt w g v
  row : RowE w base v L
  ne : v.ownBlock ≠ some g
theorem HeapAt.lt {w : World} {base g : Nat} {v : Value} {L : List El} (h : HeapAt w base g v L) : g < w.heap.size := (Array.getElem?_eq_some_iff.1 h.at_).1
theorem HeapAt.below {w w' : World} {base g : Nat} {v : Value} {L : List El} (h : HeapAt w base g v L) (hb : Below w.heap.size w w') : HeapAt w' base g v L :=
  ⟨h.low, h.at_.below hb, h.row.below hb, h.ne⟩
/-- What of old stood and may have turned: the heap's block and its things'. -/
structure Tn (g : Nat) (v v' : Value) (w w' : World) : Prop where
  os : w'.os = w.os
  tape : w'.tape = w.tape
  output : w'.output = w.output
  size : w.heap.size ≤ w'.heap.size
  block : ∀ k, k < w.heap.size → k ≠ g → some k ≠ v.ownBlock → w'.heap[k]? = w.heap[k]?
  moved : Moved v v' w.heap.size
theorem Tn.of_below {g : Nat} {v : Value} {w w' : World} (h : Below w.heap.size w w') : Tn g v v w w' :=
  ⟨h.os, h.tape, h.output, h.size, fun k hk _ _ => h.block k hk, fun b hb => .inl hb⟩
theorem Tn.below {g base : Nat} {v v' : Value} {L : List El} {w w' : World} (h : Tn g v v' w w') (ha : HeapAt w base g v L) : Below base w w' :=
  ⟨h.os, h.tape, h.output, h.size, fun k hk => by
    have hl := ha.low
    have hlt := ha.lt
    refine h.block k (by omega) (by omega) (fun e => ?_)
    have := World.ownsRow.lt ha.row k e.symm
    omega⟩
theorem Tn.trans {g : Nat} {v v' v'' : Value} {a b c : World} (h : Tn g v v' a b) (k : Tn g v' v'' b c) : Tn g v v'' a c :=
  ⟨k.os.trans h.os, k.tape.trans h.tape, k.output.trans h.output, Nat.le_trans h.size k.size, fun i hi h1 h2 => (k.block i (Nat.lt_of_lt_of_le hi h.size) h1 (fun e => by
    rcases h.moved i e.symm with h3 | h3
    · exact h2 h3.symm
    · omega)).trans (h.block i hi h1 h2), fun b hb => by
    rcases k.moved b hb with h3 | h3
    · exact h.moved b h3
    · exact .inr (Nat.le_trans h.size h3)⟩
/-- What else is owned stays, and stays apart. -/
theorem Tn.other {g base : Nat} {v v' u : Value} {w w' : World} {M : List El} (h : Tn g v v' w w') (hu : RowE w base u M) (hg : u.ownBlock ≠ some g) (hv : u.ownBlock = none ∨ u.ownBlock ≠ v.ownBlock) : RowE w' base u M ∧ (u.ownBlock = none ∨ u.ownBlock ≠ v'.ownBlock) := by
  refine ⟨⟨hu.1, ?_⟩, ?_⟩
  · rcases hu.2 with h0 | ⟨b, cap, cur, rfl, hb, hh, r⟩
    · exact .inl h0
    · refine .inr ⟨b, cap, cur, rfl, hb, ?_, r⟩
      rw [h.block b (Array.getElem?_eq_some_iff.1 hh).1 (fun e => hg (by rw [e]; rfl)) (by
        rcases hv with hv | hv
        · cases hv
        · exact hv)]
      exact hh
  · rcases hu.2 with ⟨rfl, _⟩ | ⟨b, cap, cur, rfl, hb, hh, r⟩
    · exact .inl rfl
    · right
      intro e
      rcases hv with hv | hv
      · cases hv
      · rcases h.moved b e.symm with h3 | h3
        · exact hv h3.symm
        · have := (Array.getElem?_eq_some_iff.1 hh).1
          omega
def zeroE : El := (0, 0)
/-- What Least and Pop answer. -/
def headR (L : List El) : Value := match L[0]? with | some x => .tuple #[valE x, .bool true] | none => .tuple #[valE zeroE, .bool false]
theorem len_any (base g : Nat) (v : Value) (L : List El) (w : World) (h : HeapAt w base g v L) :
    Calls Try.prog 18 #[.pointer (some ⟨g, 0, none⟩)] w fun e w' => e = .returned (.int .i64 (L.length : Nat)) ∧ w' = w := by
  have c1 : w.cell? ⟨g, 1, none⟩ = some v := by rw [cell_of_row w g 1 _ _ _ h.at_]; rfl
  obtain ⟨n, hn⟩ : ∃ n, n = L.length := ⟨_, rfl⟩
  rw [← hn]
  rcases ownsRow_forms h.row with ⟨rfl, h0⟩ | ⟨b, cap, rfl⟩
  · rw [← hn] at h0
    subst h0
    clear hn
    go_enter Try.func18, Try.ntmps18
    go_wp2
    go_ret
    exact ⟨rfl, rfl⟩
  · rw [← hn] at c1
    clear hn
    go_enter Try.func18, Try.ntmps18
    go_wp2
    go_ret
    exact ⟨rfl, rfl⟩
theorem least_any (base g : Nat) (v : Value) (L : List El) (w : World) (h : HeapAt w base g v L) :
    Calls Try.prog 17 #[.pointer (some ⟨g, 0, none⟩)] w fun e w' => e = .returned (headR L) ∧ Below w.heap.size w w' := by
  have c1 : w.cell? ⟨g, 1, none⟩ = some v := by rw [cell_of_row w g 1 _ _ _ h.at_]; rfl
  have ca : ∀ o, (w.alloc o).cell? ⟨g, 1, none⟩ = some v := fun o => cell_alloc_h c1 o
  cases L with
  | nil =>
    have hR : headR [] = .tuple #[valE zeroE, .bool false] := rfl
    rw [hR]
    obtain ⟨a, c, rfl⟩ : ∃ a c, v = .slice a 0 c := by
      rcases ownsRow_forms h.row with ⟨rfl, h0⟩ | ⟨b, cap, rfl⟩
      · exact ⟨_, _, rfl⟩
      · exact ⟨_, _, rfl⟩
    unfold valE zeroE
    go_enter Try.func17, Try.ntmps17
    go_wp2
    refine bodyPost_ret (v := .tuple #[.agg #[.int .i64 0, .int .i64 0], .bool false]) (by simp [results, Try.results17, go_sem]) rfl ⟨rfl, ?_⟩
    exact ((Below.refl _ _).alloc (Nat.le_refl _) _).alloc (by simp) _
  | cons x T =>
    have hR : headR (x :: T) = .tuple #[valE x, .bool true] := rfl
    rw [hR]
    obtain ⟨n, hn⟩ : ∃ n, n = (x :: T).length := ⟨_, rfl⟩
    have hn0 : 0 < n := by rw [hn]; simp
    have hrow := h.row
    obtain ⟨b, cap, rfl⟩ : ∃ b cap, v = .slice (some ⟨b, 0, none⟩) n cap := by
      rcases ownsRow_forms h.row with ⟨rfl, h0⟩ | ⟨b, cap, rfl⟩
      · simp at h0
      · exact ⟨_, _, by rw [hn]⟩
    have hX := hrow.at' (i := 0) (x := x) rfl
    rw [Nat.zero_mul] at hX
    clear hn hR
    have d0 : ((n : Int) == 0) = false := by simp; omega
    have i0 : (0 : Int) < (n : Int) := by omega
    unfold valE
    obtain ⟨x1, x2⟩ := x
    obtain ⟨hX1, hX2⟩ := hX
    dsimp only at hX1 hX2 ⊢
    have e1 : ∀ o, (w.alloc o).cell? ⟨b, 0, none⟩ = some (.int .i64 x1) := fun o => cell_alloc_h hX1 o
    have e2 : ∀ o, (w.alloc o).cell? ⟨b, 0 + 1, none⟩ = some (.int .i64 x2) := fun o => cell_alloc_h hX2 o
    rw [Nat.zero_add] at e2
    go_enter Try.func17, Try.ntmps17
    go_wp2
    refine bodyPost_ret (v := .tuple #[.agg #[.int .i64 x1, .int .i64 x2], .bool true]) (by simp [results, Try.results17, go_sem]) rfl ⟨rfl, ?_⟩
    exact (Below.refl _ _).alloc (Nat.le_refl _) _
theorem wp_named {P : Program} {c : Code} {Q : Exit → Act → World → Prop} {a : Act} {w : World} (h : ∀ X, X = w → c.wp P Q a X) : c.wp P Q a w := h w rfl
/-- The blocks of Pop's own variables: what it answers; the first thing; none. -/
structure Bks (X : World) (rb xb nb : Nat) (x : El) : Prop where
  r : X.heap[rb]? = some (.cells #[.int .i64 0, .int .i64 0] 34 (0, 0))
  x : X.heap[xb]? = some (.cells #[.int .i64 x.1, .int .i64 x.2] 34 (0, 0))
  n : X.heap[nb]? = some (.cells #[.int .i64 0, .int .i64 0] 34 (0, 0))
theorem Bks.below {X Y : World} {rb xb nb : Nat} {x : El} (h : Bks X rb xb nb x) (hb : Below X.heap.size X Y) (_ : True) : Bks Y rb xb nb x :=
  ⟨(hb.block _ (Array.getElem?_eq_some_iff.1 h.r).1).trans h.r, (hb.block _ (Array.getElem?_eq_some_iff.1 h.x).1).trans h.x, (hb.block _ (Array.getElem?_eq_some_iff.1 h.n).1).trans h.n⟩
theorem Bks.grown {X Y : World} {rb xb nb b : Nat} {x : El} (h : Bks X rb xb nb x) (hb : X.grownBy Y (some b)) (h1 : rb ≠ b) (h2 : xb ≠ b) (h3 : nb ≠ b) : Bks Y rb xb nb x :=
  ⟨(hb.block _ (Array.getElem?_eq_some_iff.1 h.r).1 (by simpa using h1)).trans h.r, (hb.block _ (Array.getElem?_eq_some_iff.1 h.x).1 (by simpa using h2)).trans h.x, (hb.block _ (Array.getElem?_eq_some_iff.1 h.n).1 (by simpa using h3)).trans h.n⟩
set_option maxHeartbeats 1000000 in
theorem pop_any (base g : Nat) (v : Value) (L : List El) (w : World) (h : HeapAt w base g v L) (hlen : L.length ≤ 1099511627776) :
    Calls Try.prog 19 #[.pointer (some ⟨g, 0, none⟩)] w fun e w' => ∃ v', e = .returned (headR L) ∧ HeapAt w' base g v' (popF keyE L) ∧ Tn g v v' w w' := by
  have hle := least_any base g v L
  cases L with
  | nil =>
    have hR : headR [] = .tuple #[valE zeroE, .bool false] := rfl
    rw [hR] at hle ⊢
    unfold valE zeroE at hle ⊢
    go_enter Try.func19, Try.ntmps19
    go_wp2_with fail
    have h1 := h.below ((Below.refl w.heap.size w).alloc (Nat.le_refl _) (.cells #[.int .i64 0, .int .i64 0] 34))
    refine (hle _ h1).mono ?_
    rintro e w1 ⟨rfl, hb1⟩
    have r0 : w1.cell? ⟨w.heap.size, 0, none⟩ = some (.int .i64 0) := (hb1.cell (p := ⟨w.heap.size, 0, none⟩) (by show w.heap.size < _; simp)).trans (by simp [go_sem])
    have r1 : w1.cell? ⟨w.heap.size, 1, none⟩ = some (.int .i64 0) := (hb1.cell (p := ⟨w.heap.size, 1, none⟩) (by show w.heap.size < _; simp)).trans (by simp [go_sem])
    have ra0 : ∀ o, (w1.alloc o).cell? ⟨w.heap.size, 0, none⟩ = some (.int .i64 0) := fun o => cell_alloc_h r0 o
    have ra1 : ∀ o, (w1.alloc o).cell? ⟨w.heap.size, 1, none⟩ = some (.int .i64 0) := fun o => cell_alloc_h r1 o
    have q0 : w1.frozen? ⟨w.heap.size, 0, none⟩ = false := (hb1.frozen (p := ⟨w.heap.size, 0, none⟩) (by show w.heap.size < _; simp)).trans (by simp [go_sem])
    have q1 : w1.frozen? ⟨w.heap.size, 1, none⟩ = false := (hb1.frozen (p := ⟨w.heap.size, 1, none⟩) (by show w.heap.size < _; simp)).trans (by simp [go_sem])
    have qa0 : ∀ o, (w1.alloc o).frozen? ⟨w.heap.size, 0, none⟩ = false := fun o => frozen_alloc_h r0 q0 o
    have qa1 : ∀ o, (w1.alloc o).frozen? ⟨w.heap.size, 1, none⟩ = false := fun o => frozen_alloc_h r1 q1 o
    have hs1 : w.heap.size < w1.heap.size := by have := hb1.size; simp at this; omega
    have B1 : Below w.heap.size w w1 := ((Below.refl w.heap.size w).alloc (Nat.le_refl _) _).trans (hb1.mono (by simp))
    have ns : ¬ w1.heap.size = w.heap.size := by omega
    have ns' : ¬ w.heap.size = w1.heap.size := by omega
    clear hle hb1 h1
    go_wp2_with fail
    have rz0 : ∀ o, (((w1.setCell ⟨w.heap.size, 0, none⟩ (.int .i64 0)).setCell ⟨w.heap.size, 1, none⟩ (.int .i64 0)).alloc o).cell? ⟨w.heap.size, 0, none⟩ = some (.int .i64 0) := fun o => cell_alloc_h (by simp [go_sem, r0]) o
    have rz1 : ∀ o, (((w1.setCell ⟨w.heap.size, 0, none⟩ (.int .i64 0)).setCell ⟨w.heap.size, 1, none⟩ (.int .i64 0)).alloc o).cell? ⟨w.heap.size, 1, none⟩ = some (.int .i64 0) := fun o => cell_alloc_h (by simp [go_sem, r1]) o
    refine bodyPost_ret (v := .tuple #[.agg #[.int .i64 0, .int .i64 0], .bool false]) (by simp [results, Try.results19, go_sem, rz0, rz1]) rfl ⟨v, rfl, ?_⟩
    have B2 : Below w.heap.size w (((w1.setCell ⟨w.heap.size, 0, none⟩ (.int .i64 0)).setCell ⟨w.heap.size, 1, none⟩ (.int .i64 0)).alloc (.cells #[.int .i64 0, .int .i64 0] 34)) :=
      ((B1.setCell (Nat.le_refl _) _).setCell (Nat.le_refl _) _).alloc (by simp; omega) _
    exact ⟨h.below B2, Tn.of_below B2⟩
  | cons x T =>
    have hR : headR (x :: T) = .tuple #[valE x, .bool true] := rfl
    rw [hR] at hle ⊢
    clear hR
    unfold valE at hle ⊢
    go_enter Try.func19, Try.ntmps19
    go_wp2_with fail
    have h1 := h.below ((Below.refl w.heap.size w).alloc (Nat.le_refl _) (.cells #[.int .i64 0, .int .i64 0] 34))
    refine (hle _ h1).mono ?_
    rintro e w1 ⟨rfl, hb1⟩
    go_upto_region 5 with fail
    refine wp_named fun X1 hX1 => ?_
    have hs1 : w.heap.size < w1.heap.size := by have := hb1.size; simp at this; omega
    have B1 : Below w.heap.size w w1 := ((Below.refl w.heap.size w).alloc (Nat.le_refl _) _).trans (hb1.mono (by simp))
    have HB : Bks X1 w.heap.size w1.heap.size (w1.heap.size + 1) x ∧ Below w.heap.size w X1 ∧ w1.heap.size + 1 < X1.heap.size := by
      rw [hX1]
      refine ⟨⟨?_, ?_, ?_⟩, ?_, ?_⟩
      · rw [Below.heap_alloc _ _ _ (by simp; omega), Below.heap_alloc _ _ _ hs1, hb1.block _ (by simp)]
        exact heap_alloc_new w _
      · rw [Below.heap_alloc _ _ _ (by simp)]
        exact heap_alloc_new w1 _
      · have := heap_alloc_new (w1.alloc (.cells #[.int .i64 x.1, .int .i64 x.2] 34)) (.cells #[.int .i64 0, .int .i64 0] 34)
        simpa using this
      · exact (B1.alloc (by omega) _).alloc (by simp; omega) _
      · simp
    obtain ⟨HBk, HBw, hs2⟩ := HB
    clear hX1 hb1 B1
    obtain ⟨rb, hrb⟩ : ∃ rb, rb = w.heap.size := ⟨_, rfl⟩
    obtain ⟨xb, hxb⟩ : ∃ xb, xb = w1.heap.size := ⟨_, rfl⟩
    have HRB : Hid (rb = w.heap.size) := hrb
    rw [← hrb, ← hxb] at HBk
    rw [← hxb] at hs1 hs2
    rw [← hrb] at hs1
    rw [← hrb, ← hxb]
    clear hxb
    have h3 := h.below HBw
    clear hrb
    have hlt := h.lt
    have hv := World.ownsRow.lt h.row
    have hrow := h3.row
    obtain ⟨n, hn⟩ : ∃ n, n = (x :: T).length := ⟨_, rfl⟩
    obtain ⟨b, cap, rfl⟩ : ∃ b cap, v = .slice (some ⟨b, 0, none⟩) n cap := by
      rcases ownsRow_forms h.row with ⟨rfl, h0⟩ | ⟨b, cap, rfl⟩
      · simp at h0
      · exact ⟨_, _, by rw [hn]⟩
    have hbl := (hv b rfl).2
    have hgb : g ≠ b := fun e => h.ne (by rw [e]; rfl)
    have hn0 : 0 < n := by rw [hn]; simp
    obtain ⟨z, hz⟩ : ∃ z, (x :: T)[n - 1]? = some z := ⟨_, List.getElem?_eq_getElem (by omega)⟩
    have hZ := hrow.at' hz
    have c1 : X1.cell? ⟨g, 1, none⟩ = some (.slice (some ⟨b, 0, none⟩) n cap) := by rw [cell_of_row X1 g 1 _ _ _ h3.at_]; rfl
    have hX0 := hrow.at' (i := 0) (x := x) rfl
    rw [Nat.zero_mul] at hX0
    have fz := hrow.free
    have e1 := cell_regrown c1
    obtain ⟨m, hm⟩ : ∃ m, m = n - 1 := ⟨_, rfl⟩
    rw [← hm] at hZ hz
    have hmn : m < n := by omega
    have hmle : m ≤ 1099511627776 := by omega
    have hmi : (n : Int) - 1 = ((m : Nat) : Int) := by omega
    have i0 : 0 ≤ (m : Int) ∧ (m : Int) < (n : Int) := by omega
    have i1 : (0 : Int) < (n : Int) := by omega
    have HN : Hid (n = (x :: T).length) := hn
    have HM : Hid (m = n - 1) := hm
    have HZ : Hid ((x :: T)[m]? = some z) := hz
    clear hn hm hz
    obtain ⟨z1, z2⟩ := z
    obtain ⟨hZ1, hZ2⟩ := hZ
    dsimp only at hZ1 hZ2
    have e2 := cell_regrown hZ1
    have e3 := cell_regrown hZ2
    go_wp2_with fail
    refine wp_region_quiet_tail (C := fun w' => ∃ p : Regrown, w' = grow (redrawn X1 p.d) p.os) 11 (by kernel_rfl) (by kernel_rfl) ⟨⟨_, #[]⟩, by rw [grow_empty]; rfl⟩ ?_
    simp only [List.take_succ_cons, List.take_zero, List.drop_succ_cons, List.drop_zero]
    repeat (go_big_quiet_step (fail))
    refine wpQuiet_nil ?_
    intro W5 hw'
    have hb5 : Below X1.heap.size X1 W5 := by
      obtain ⟨⟨dq, osq⟩, rfl⟩ := hw'
      exact below_regrown _ _ _
    clear hw'
    have hrow5 := hrow.below hb5
    have h5 := h3.below hb5
    have HBk5 := HBk.below hb5 trivial
    clear HBk
    have HB5 := HBw.trans (hb5.mono HBw.size)
    have hs5 : X1.heap.size ≤ W5.heap.size := hb5.size
    have a0 := hrow5.at' (i := 0) (x := x) rfl
    rw [Nat.zero_mul] at a0
    have f0 := hrow5.free
    obtain ⟨p5, g5⟩ := hrow5.put (i := 0) (by simp) (z1, z2)
    rw [Nat.zero_mul] at p5 g5
    have hp5 := h5.at_.grown g5 hgb
    have hrbv := HRB.out
    have HBk6 := HBk5.grown g5 (by omega) (by omega) (by omega)
    clear hrbv
    clear HBk5
    unfold putE at p5 g5 hp5 HBk6
    dsimp only at p5 g5 hp5 HBk6
    obtain ⟨a01, a02⟩ := a0
    rw [Nat.zero_add] at a02 p5 g5 hp5 HBk6
    clear e1 e2 e3 hb5 hZ1 hZ2 hX0 fz hrow c1 hrow5 h5
    go_upto_region 7 with fail
    refine wp_named fun X6 hX6 => ?_
    rw [← hX6] at p5 g5 hp5 HBk6
    have hs6 : W5.heap.size ≤ X6.heap.size := g5.size
    have G6 : w.grownBy X6 (some b) := grownBy_trans ⟨HB5.os, HB5.tape, HB5.output, HB5.size, fun k hk _ => HB5.block k hk⟩ g5
    have c6 : X6.cell? ⟨g, 1, none⟩ = some (.slice (some ⟨b, 0, none⟩) n cap) := by rw [cell_of_row X6 g 1 _ _ _ hp5]; rfl
    clear hX6 g5 f0 a01 a02 HBw HB5
    have hm6 : m < ((x :: T).set 0 (z1, z2)).length := by rw [List.length_set, ← HN.out]; exact hmn
    obtain ⟨y, hy⟩ : ∃ y, ((x :: T).set 0 (z1, z2))[m]? = some y := ⟨_, List.getElem?_eq_getElem hm6⟩
    have hY := p5.at' hy
    have f6 := p5.free
    have n0 : X6.cell? ⟨xb + 1, 0, none⟩ = some (.int .i64 0) := by rw [cell_of_row X6 _ 0 _ _ _ HBk6.n]; rfl
    have n1 : X6.cell? ⟨xb + 1, 1, none⟩ = some (.int .i64 0) := by rw [cell_of_row X6 _ 1 _ _ _ HBk6.n]; rfl
    have e1 := cell_regrown c6
    have e2 := cell_regrown n0
    have e3 := cell_regrown n1
    clear c6 n0 n1 hy
    refine wp_region_quiet_tail (C := fun w' => ∃ p : Regrown, w' = grow (redrawn X6 p.d) p.os) 6 (by kernel_rfl) (by kernel_rfl) ⟨⟨_, #[]⟩, by rw [grow_empty]; rfl⟩ ?_
    simp only [List.take_succ_cons, List.take_zero, List.drop_succ_cons, List.drop_zero]
    repeat (go_big_quiet_step (fail))
    refine wpQuiet_nil ?_
    intro W7 hw'
    have hb7 : Below X6.heap.size X6 W7 := by
      obtain ⟨⟨dq, osq⟩, rfl⟩ := hw'
      exact below_regrown _ _ _
    clear hw'
    have hrow7 := p5.below hb7
    have h7 := hp5.below hb7
    have HBk7 := HBk6.below hb7 trivial
    have hY7 := hY.below hb7
    have f7 := hrow7.free
    obtain ⟨hY1, hY2⟩ := hY7
    have G7 := grownBy_below G6 hb7
    have hs7 : X6.heap.size ≤ W7.heap.size := hb7.size
    clear e1 e2 e3 hY G6 f6 p5 hp5 HBk6
    obtain ⟨p7, g7⟩ := hrow7.put hm6 (0, 0)
    have hp7 := h7.grown g7 hgb
    have hrbv := HRB.out
    have HBk8 := HBk7.grown g7 (by omega) (by omega) (by omega)
    clear hrbv HBk7 h7 hrow7
    unfold putE at p7 g7 hp7 HBk8
    dsimp only at p7 g7 hp7 HBk8
    go_upto_region 8 with fail
    refine wp_named fun X8 hX8 => ?_
    rw [← hX8] at p7 g7 hp7 HBk8
    have G8 := grownBy_trans G7 g7
    have hs8 : W7.heap.size ≤ X8.heap.size := g7.size
    clear hX8 g7 G7 hY1 hY2 f7 hb7
    have p8 := RowE.pop (by rw [show m + 1 = n by omega]; exact p7)
    have c8 : X8.cell? ⟨g, 1, none⟩ = some (.slice (some ⟨b, 0, none⟩) n cap) := by rw [cell_of_row X8 g 1 _ _ _ hp7]; rfl
    have f8 : X8.frozen? ⟨g, 1, none⟩ = false := frozen_of_row X8 g 1 _ _ hp7
    have i3 : (m : Int) ≤ (cap : Int) := by
      rcases p7.2 with ⟨h0, _⟩ | ⟨b', cap', cur', h0, _, _, h1, _⟩
      · cases h0
      · cases h0; omega
    obtain ⟨M, hM⟩ : ∃ M, M = (((x :: T).set 0 (z1, z2)).set m ((0, 0) : El)).take m := ⟨_, rfl⟩
    rw [← hM] at p8
    have hMl : M.length = m := by rw [hM]; simp; simp at hm6; omega
    have hMe : M = ((x :: T).set 0 (z1, z2)).take m := by
      rw [hM]
      apply List.ext_getElem?
      intro q
      rw [List.getElem?_take, List.getElem?_take]
      by_cases hq : q < m
      · rw [if_pos hq, if_pos hq, List.getElem?_set_ne (by omega)]
      · rw [if_neg hq, if_neg hq]
    have HME : Hid (M = ((x :: T).set 0 (z1, z2)).take m) := hMe
    have HML : Hid (M.length = m) := hMl
    clear hM hMe
    have hp9 := hp7.turn (.slice (some ⟨b, 0, none⟩) m cap)
    have p9 : RowE (X8.setCell ⟨g, 1, none⟩ (.slice (some ⟨b, 0, none⟩) m cap)) base (.slice (some ⟨b, 0, none⟩) m cap) M := ownsRow_setCell_other p8 (fun e => hgb (by cases e; rfl)) _
    have HBk9 : Bks (X8.setCell ⟨g, 1, none⟩ (.slice (some ⟨b, 0, none⟩) m cap)) rb xb (xb + 1) x := by
      have hrbv := HRB.out
      exact HBk8.grown (b := g) ⟨rfl, rfl, rfl, by simp, fun k _ hk => heap_setCell_other X8 ⟨g, 1, none⟩ k _ (fun e => hk (by simp [e]))⟩ (by omega) (by omega) (by omega)
    have HS := sink_any g b cap base _ M 0 _ hp9 (by rw [hMl]; exact p9) hgb (by rw [hMl]; omega) (Nat.zero_le _)
    rw [hMl] at HS
    obtain ⟨R, hR⟩ : ∃ R, R = sinkF keyE m M 0 := ⟨_, rfl⟩
    rw [← hR] at HS
    have HRR : Hid (R = sinkF keyE m M 0) := hR
    clear hR hMl
    go_upto_region 9 with fail
    refine wp_named fun X9 hX9 => ?_
    rw [← hX9] at HS HBk9
    have hs9 : X8.heap.size ≤ X9.heap.size := by rw [hX9]; simp
    have G9 : ∀ k, k < w.heap.size → k ≠ g → k ≠ b → X9.heap[k]? = w.heap[k]? := by
      intro k hk h1 h2
      rw [hX9, heap_setCell_other X8 ⟨g, 1, none⟩ k _ h1, G8.block k hk (by simpa using h2)]
    have G9s : X9.os = w.os ∧ X9.tape = w.tape ∧ X9.output = w.output := by rw [hX9]; exact ⟨G8.os, G8.tape, G8.output⟩
    have hp9' : HpAt X9 g (.slice (some ⟨b, 0, none⟩) m cap) := by rw [hX9]; exact hp9
    have c9 : X9.cell? ⟨g, 1, none⟩ = some (.slice (some ⟨b, 0, none⟩) m cap) := by rw [cell_of_row X9 g 1 _ _ _ hp9']; rfl
    have G8s := G8.size
    clear hX9 hp9 p9 p8 c8 f8 i3 hp7 p7 G8 HBk8
    go_wp2_with fail
    refine HS.mono ?_
    rintro e w2 ⟨rfl, hrw, hgr⟩
    have hpop : popF keyE (x :: T) = R := by
      unfold popF
      rw [← HN.out, show n - 1 = m from HM.out.symm, HZ.out, HRR.out, HME.out]
    have hsz : w.heap.size ≤ w2.heap.size := Nat.le_trans G8s (Nat.le_trans hs9 hgr.size)
    have hT2 : Tn g (.slice (some ⟨b, 0, none⟩) n cap) (.slice (some ⟨b, 0, none⟩) m cap) w w2 :=
      ⟨hgr.os.trans G9s.1, hgr.tape.trans G9s.2.1, hgr.output.trans G9s.2.2, hsz, fun k hk h1 h2 => by
        have h2' : k ≠ b := fun e => h2 (by rw [e]; rfl)
        rw [hgr.block k (by omega) (by simpa using h2')]
        exact G9 k hk h1 h2', fun q hq => .inl hq⟩
    have hp2 := hp9'.grown hgr hgb
    have hrbv := HRB.out
    have HBk2 := HBk9.grown hgr (by omega) (by omega) (by omega)
    clear HBk9 HS hp9' c9
    have x0 : w2.cell? ⟨xb, 0, none⟩ = some (.int .i64 x.1) := by rw [cell_of_row w2 _ 0 _ _ _ HBk2.x]; rfl
    have x1 : w2.cell? ⟨xb, 1, none⟩ = some (.int .i64 x.2) := by rw [cell_of_row w2 _ 1 _ _ _ HBk2.x]; rfl
    have r0 : w2.cell? ⟨rb, 0, none⟩ = some (.int .i64 0) := by rw [cell_of_row w2 _ 0 _ _ _ HBk2.r]; rfl
    have r1 : w2.cell? ⟨rb, 1, none⟩ = some (.int .i64 0) := by rw [cell_of_row w2 _ 1 _ _ _ HBk2.r]; rfl
    have q0 : w2.frozen? ⟨rb, 0, none⟩ = false := frozen_of_row w2 rb 0 _ _ HBk2.r
    have q1 : w2.frozen? ⟨rb, 1, none⟩ = false := frozen_of_row w2 rb 1 _ _ HBk2.r
    clear hrbv
    go_wp2_with fail
    have k0 : ∀ (x0 : World), x0 = (w2.setCell ⟨rb, 0, none⟩ (.int .i64 x.1)).setCell ⟨rb, 1, none⟩ (.int .i64 x.2) → x0.cell? ⟨rb, 0, none⟩ = some (.int .i64 x.1) ∧ x0.cell? ⟨rb, 1, none⟩ = some (.int .i64 x.2) := by
      rintro x0 rfl
      constructor
      · simp [go_sem, r0, r1]
      · simp [go_sem, r0, r1]
    obtain ⟨k1, k2⟩ := k0 _ rfl
    refine bodyPost_ret (v := .tuple #[.agg #[.int .i64 x.1, .int .i64 x.2], .bool true]) (by simp [results, Try.results19, go_sem, k1, k2]) rfl ⟨.slice (some ⟨b, 0, none⟩) m cap, rfl, ?_⟩
    have hrbv := HRB.out
    have B2 : Below w.heap.size w2 ((w2.setCell ⟨rb, 0, none⟩ (.int .i64 x.1)).setCell ⟨rb, 1, none⟩ (.int .i64 x.2)) :=
      ((Below.refl _ w2).setCell (p := ⟨rb, 0, none⟩) (by show w.heap.size ≤ rb; omega) _).setCell (p := ⟨rb, 1, none⟩) (by show w.heap.size ≤ rb; omega) _
    rw [hpop]
    have hrb2 : (Value.slice (some ⟨b, 0, none⟩) m cap).ownBlock ≠ some rb := fun e => by
      have e2 : b = rb := by cases e; rfl
      omega
    refine ⟨⟨h.low, (B2.block g (by omega)).trans hp2, ownsRow_setCell_other (ownsRow_setCell_other hrw hrb2 _) hrb2 _, fun e => hgb (by cases e; rfl)⟩, ?_⟩
    exact ⟨B2.os.trans hT2.os, B2.tape.trans hT2.tape, B2.output.trans hT2.output, Nat.le_trans hT2.size B2.size, fun k hk h1 h2 => (B2.block k hk).trans (hT2.block k hk h1 h2), hT2.moved⟩
end Go.Proofs.Ytmfbeelnhihlaaa.HP
