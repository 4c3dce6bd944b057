import Derived.Test.YtjbdhakogbolkaaDoorJ11
import Derived.Test.YtjbdhakogbolkaaDoorJ5
import Derived.Laws.CopyOwn
import Derived.Laws.MakeOwn
import Derived.Laws.OwnMore
import Derived.Deep.DeepMust
import Derived.Laws.StructEq
import Derived.Test.YtjbdhakogbolkaaDoorJ9
import Derived.Test.YtjbdhakogbolkaaDoorProg
import Derived.ProofKit
import Derived.Below
import Derived.OpenShut
import Derived.WalkSpells
import Derived.WalkLawsBesides
import Derived.Deep.QuietTactic
import Derived.BigQuiet
import Derived.OneCell
import Derived.Lib.SmallJoins
import Derived.Lib.QuietBelow
import Derived.Deep.DeepCutAuto
section
/- heap's Len, Least, Push, Pop: their contracts. -/
namespace Go.Proofs.YtjbdhakogbolkaaDoor.HQ
open Go.RowKit Go.Joins Go.Sort
set_option linter.unusedVariables false
set_option linter.unusedSimpArgs false
set_option maxRecDepth 100000
/-- A heap of one's own: its block is g, its things lie in v. -/
structure HeapAt (w : World) (base g : Nat) (v : Value) (L : List El) : Prop where
  low : base ≤ g
  at_ : HpAt w g v
  row : RowE w base v L
  ne : v.ownBlock ≠ some g
theorem HeapAt.lt {w : World} {base g : Nat} {v : Value} {L : List El} (h : HeapAt w base g v L) : g < w.heap.size := (Array.getElem?_eq_some_iff.1 h.at_).1
theorem HeapAt.below {w w' : World} {base g : Nat} {v : Value} {L : List El} (h : HeapAt w base g v L) (hb : Below w.heap.size w w') : HeapAt w' base g v L :=
  ⟨h.low, h.at_.below hb, h.row.below hb, h.ne⟩
/-- What of old stood and may have turned: the heap's block and its things'. -/
structure Tn (g : Nat) (v v' : Value) (w w' : World) : Prop where
  os : w'.os = w.os
  tape : w'.tape = w.tape
  output : w'.output = w.output
  size : w.heap.size ≤ w'.heap.size
  block : ∀ k, k < w.heap.size → k ≠ g → some k ≠ v.ownBlock → w'.heap[k]? = w.heap[k]?
  moved : Moved v v' w.heap.size
theorem Tn.of_below {g : Nat} {v : Value} {w w' : World} (h : Below w.heap.size w w') : Tn g v v w w' :=
  ⟨h.os, h.tape, h.output, h.size, fun k hk _ _ => h.block k hk, fun b hb => .inl hb⟩
theorem Tn.below {g base : Nat} {v v' : Value} {L : List El} {w w' : World} (h : Tn g v v' w w') (ha : HeapAt w base g v L) : Below base w w' :=
  ⟨h.os, h.tape, h.output, h.size, fun k hk => by
    have hl := ha.low
    have hlt := ha.lt
    refine h.block k (by omega) (by omega) (fun e => ?_)
    have := World.ownsRow.lt ha.row k e.symm
    omega⟩
theorem Tn.trans {g : Nat} {v v' v'' : Value} {a b c : World} (h : Tn g v v' a b) (k : Tn g v' v'' b c) : Tn g v v'' a c :=
  ⟨k.os.trans h.os, k.tape.trans h.tape, k.output.trans h.output, Nat.le_trans h.size k.size, fun i hi h1 h2 => (k.block i (Nat.lt_of_lt_of_le hi h.size) h1 (fun e => by
    rcases h.moved i e.symm with h3 | h3
    · exact h2 h3.symm
    · omega)).trans (h.block i hi h1 h2), fun b hb => by
    rcases k.moved b hb with h3 | h3
    · exact h.moved b h3
    · exact .inr (Nat.le_trans h.size h3)⟩
/-- What else is owned stays, and stays apart. -/
theorem Tn.other {g base : Nat} {v v' u : Value} {w w' : World} {M : List El} (h : Tn g v v' w w') (hu : RowE w base u M) (hg : u.ownBlock ≠ some g) (hv : u.ownBlock = none ∨ u.ownBlock ≠ v.ownBlock) : RowE w' base u M ∧ (u.ownBlock = none ∨ u.ownBlock ≠ v'.ownBlock) := by
  refine ⟨⟨hu.1, ?_⟩, ?_⟩
  · rcases hu.2 with h0 | ⟨b, cap, cur, rfl, hb, hh, r⟩
    · exact .inl h0
    · refine .inr ⟨b, cap, cur, rfl, hb, ?_, r⟩
      rw [h.block b (Array.getElem?_eq_some_iff.1 hh).1 (fun e => hg (by rw [e]; rfl)) (by
        rcases hv with hv | hv
        · cases hv
        · exact hv)]
      exact hh
  · rcases hu.2 with ⟨rfl, _⟩ | ⟨b, cap, cur, rfl, hb, hh, r⟩
    · exact .inl rfl
    · right
      intro e
      rcases hv with hv | hv
      · cases hv
      · rcases h.moved b e.symm with h3 | h3
        · exact hv h3.symm
        · have := (Array.getElem?_eq_some_iff.1 hh).1
          omega
def zeroE : El := ⟨0, 0, 0, 0, by decide⟩
/-- What Least and Pop answer. -/
def headR (L : List El) : Value := match L[0]? with | some x => .tuple #[valE x, .bool true] | none => .tuple #[valE zeroE, .bool false]
theorem least_any (base g : Nat) (v : Value) (L : List El) (w : World) (h : HeapAt w base g v L) :
    Calls Tryd.prog 75 #[.pointer (some ⟨g, 0, none⟩)] w fun e w' => e = .returned (headR L) ∧ Below w.heap.size w w' := by
  have c1 : w.cell? ⟨g, 1, none⟩ = some v := by rw [cell_of_row w g 1 _ _ _ h.at_]; rfl
  have ca : ∀ o, (w.alloc o).cell? ⟨g, 1, none⟩ = some v := fun o => cell_alloc_h c1 o
  cases L with
  | nil =>
    have hR : headR [] = .tuple #[valE zeroE, .bool false] := rfl
    rw [hR]
    obtain ⟨a, c, rfl⟩ : ∃ a c, v = .slice a 0 c := by
      rcases ownsRow_forms h.row with ⟨rfl, h0⟩ | ⟨b, cap, rfl⟩
      · exact ⟨_, _, rfl⟩
      · exact ⟨_, _, rfl⟩
    unfold valE zeroE
    go_enter Tryd.func75, Tryd.ntmps75
    go_wp2
    refine bodyPost_ret (v := .tuple #[.agg #[.int .i64 0, .int .i64 0, .int .i64 0, .int .i64 0], .bool false]) (by simp [results, Tryd.results75, go_sem]) rfl ⟨rfl, ?_⟩
    exact ((Below.refl _ _).alloc (Nat.le_refl _) _).alloc (by simp) _
  | cons x T =>
    have hR : headR (x :: T) = .tuple #[valE x, .bool true] := rfl
    rw [hR]
    obtain ⟨n, hn⟩ : ∃ n, n = (x :: T).length := ⟨_, rfl⟩
    have hn0 : 0 < n := by rw [hn]; simp
    have hrow := h.row
    obtain ⟨b, cap, rfl⟩ : ∃ b cap, v = .slice (some ⟨b, 0, none⟩) n cap := by
      rcases ownsRow_forms h.row with ⟨rfl, h0⟩ | ⟨b, cap, rfl⟩
      · simp at h0
      · exact ⟨_, _, by rw [hn]⟩
    have hX := hrow.at' (i := 0) (x := x) rfl
    rw [Nat.zero_mul] at hX
    clear hn hR
    have d0 : ((n : Int) == 0) = false := by simp; omega
    have i0 : (0 : Int) < (n : Int) := by omega
    unfold valE
    obtain ⟨x1, x2, x3, x4, hx5⟩ := x
    obtain ⟨hX1, hX2, hX3, hX4⟩ := hX
    dsimp only at hX1 hX2 hX3 hX4 ⊢
    have e1 : ∀ o, (w.alloc o).cell? ⟨b, 0, none⟩ = some (.int .i64 x1) := fun o => cell_alloc_h hX1 o
    have e2 : ∀ o, (w.alloc o).cell? ⟨b, 0 + 1, none⟩ = some (.int .i64 x2) := fun o => cell_alloc_h hX2 o
    have e3 : ∀ o, (w.alloc o).cell? ⟨b, 0 + 2, none⟩ = some (.int .i64 x3) := fun o => cell_alloc_h hX3 o
    have e4 : ∀ o, (w.alloc o).cell? ⟨b, 0 + 3, none⟩ = some (.int .i64 x4) := fun o => cell_alloc_h hX4 o
    rw [Nat.zero_add] at e2 e3 e4
    go_enter Tryd.func75, Tryd.ntmps75
    go_wp2
    refine bodyPost_ret (v := .tuple #[.agg #[.int .i64 x1, .int .i64 x2, .int .i64 x3, .int .i64 x4], .bool true]) (by simp [results, Tryd.results75, go_sem]) rfl ⟨rfl, ?_⟩
    exact (Below.refl _ _).alloc (Nat.le_refl _) _
theorem wp_named {P : Program} {c : Code} {Q : Exit → Act → World → Prop} {a : Act} {w : World} (h : ∀ X, X = w → c.wp P Q a X) : c.wp P Q a w := h w rfl
/-- The blocks of Pop's own variables: what it answers; the first thing; none. -/
structure Bks (X : World) (rb xb nb : Nat) (x : El) : Prop where
  r : X.heap[rb]? = some (.cells #[.int .i64 0, .int .i64 0, .int .i64 0, .int .i64 0] 86 (0, 0))
  x : X.heap[xb]? = some (.cells #[.int .i64 x.k, .int .i64 x.i, .int .i64 x.p, .int .i64 x.q] 86 (0, 0))
  n : X.heap[nb]? = some (.cells #[.int .i64 0, .int .i64 0, .int .i64 0, .int .i64 0] 86 (0, 0))
theorem Bks.below {X Y : World} {rb xb nb : Nat} {x : El} (h : Bks X rb xb nb x) (hb : Below X.heap.size X Y) (_ : True) : Bks Y rb xb nb x :=
  ⟨(hb.block _ (Array.getElem?_eq_some_iff.1 h.r).1).trans h.r, (hb.block _ (Array.getElem?_eq_some_iff.1 h.x).1).trans h.x, (hb.block _ (Array.getElem?_eq_some_iff.1 h.n).1).trans h.n⟩
theorem Bks.grown {X Y : World} {rb xb nb b : Nat} {x : El} (h : Bks X rb xb nb x) (hb : X.grownBy Y (some b)) (h1 : rb ≠ b) (h2 : xb ≠ b) (h3 : nb ≠ b) : Bks Y rb xb nb x :=
  ⟨(hb.block _ (Array.getElem?_eq_some_iff.1 h.r).1 (by simpa using h1)).trans h.r, (hb.block _ (Array.getElem?_eq_some_iff.1 h.x).1 (by simpa using h2)).trans h.x, (hb.block _ (Array.getElem?_eq_some_iff.1 h.n).1 (by simpa using h3)).trans h.n⟩
set_option maxHeartbeats 1000000 in
theorem pop_any (base g : Nat) (v : Value) (L : List El) (w : World) (h : HeapAt w base g v L) (hlen : L.length ≤ 1099511627776) :
    Calls Tryd.prog 57 #[.pointer (some ⟨g, 0, none⟩)] w fun e w' => ∃ v', e = .returned (headR L) ∧ HeapAt w' base g v' (popF keyE L) ∧ Tn g v v' w w' := by
  have hle := least_any base g v L
  cases L with
  | nil =>
    have hR : headR [] = .tuple #[valE zeroE, .bool false] := rfl
    rw [hR] at hle ⊢
    unfold valE zeroE at hle ⊢
    go_enter Tryd.func57, Tryd.ntmps57
    go_wp2_with fail
    have h1 := h.below ((Below.refl w.heap.size w).alloc (Nat.le_refl _) (.cells #[.int .i64 0, .int .i64 0, .int .i64 0, .int .i64 0] 86))
    refine (hle _ h1).mono ?_
    rintro e w1 ⟨rfl, hb1⟩
    have r0 : w1.cell? ⟨w.heap.size, 0, none⟩ = some (.int .i64 0) := (hb1.cell (p := ⟨w.heap.size, 0, none⟩) (by show w.heap.size < _; simp)).trans (by simp [go_sem])
    have r1 : w1.cell? ⟨w.heap.size, 1, none⟩ = some (.int .i64 0) := (hb1.cell (p := ⟨w.heap.size, 1, none⟩) (by show w.heap.size < _; simp)).trans (by simp [go_sem])
    have r2 : w1.cell? ⟨w.heap.size, 2, none⟩ = some (.int .i64 0) := (hb1.cell (p := ⟨w.heap.size, 2, none⟩) (by show w.heap.size < _; simp)).trans (by simp [go_sem])
    have r3 : w1.cell? ⟨w.heap.size, 3, none⟩ = some (.int .i64 0) := (hb1.cell (p := ⟨w.heap.size, 3, none⟩) (by show w.heap.size < _; simp)).trans (by simp [go_sem])
    have ra0 : ∀ o, (w1.alloc o).cell? ⟨w.heap.size, 0, none⟩ = some (.int .i64 0) := fun o => cell_alloc_h r0 o
    have ra1 : ∀ o, (w1.alloc o).cell? ⟨w.heap.size, 1, none⟩ = some (.int .i64 0) := fun o => cell_alloc_h r1 o
    have ra2 : ∀ o, (w1.alloc o).cell? ⟨w.heap.size, 2, none⟩ = some (.int .i64 0) := fun o => cell_alloc_h r2 o
    have ra3 : ∀ o, (w1.alloc o).cell? ⟨w.heap.size, 3, none⟩ = some (.int .i64 0) := fun o => cell_alloc_h r3 o
    have q0 : w1.frozen? ⟨w.heap.size, 0, none⟩ = false := (hb1.frozen (p := ⟨w.heap.size, 0, none⟩) (by show w.heap.size < _; simp)).trans (by simp [go_sem])
    have q1 : w1.frozen? ⟨w.heap.size, 1, none⟩ = false := (hb1.frozen (p := ⟨w.heap.size, 1, none⟩) (by show w.heap.size < _; simp)).trans (by simp [go_sem])
    have q2 : w1.frozen? ⟨w.heap.size, 2, none⟩ = false := (hb1.frozen (p := ⟨w.heap.size, 2, none⟩) (by show w.heap.size < _; simp)).trans (by simp [go_sem])
    have q3 : w1.frozen? ⟨w.heap.size, 3, none⟩ = false := (hb1.frozen (p := ⟨w.heap.size, 3, none⟩) (by show w.heap.size < _; simp)).trans (by simp [go_sem])
    have qa0 : ∀ o, (w1.alloc o).frozen? ⟨w.heap.size, 0, none⟩ = false := fun o => frozen_alloc_h r0 q0 o
    have qa1 : ∀ o, (w1.alloc o).frozen? ⟨w.heap.size, 1, none⟩ = false := fun o => frozen_alloc_h r1 q1 o
    have qa2 : ∀ o, (w1.alloc o).frozen? ⟨w.heap.size, 2, none⟩ = false := fun o => frozen_alloc_h r2 q2 o
    have qa3 : ∀ o, (w1.alloc o).frozen? ⟨w.heap.size, 3, none⟩ = false := fun o => frozen_alloc_h r3 q3 o
    have hs1 : w.heap.size < w1.heap.size := by have := hb1.size; simp at this; omega
    have B1 : Below w.heap.size w w1 := ((Below.refl w.heap.size w).alloc (Nat.le_refl _) _).trans (hb1.mono (by simp))
    have ns : ¬ w1.heap.size = w.heap.size := by omega
    have ns' : ¬ w.heap.size = w1.heap.size := by omega
    clear hle hb1 h1
    go_wp2_with fail
    have rz0 : ∀ o, (((((w1.setCell ⟨w.heap.size, 0, none⟩ (.int .i64 0)).setCell ⟨w.heap.size, 1, none⟩ (.int .i64 0)).setCell ⟨w.heap.size, 2, none⟩ (.int .i64 0)).setCell ⟨w.heap.size, 3, none⟩ (.int .i64 0)).alloc o).cell? ⟨w.heap.size, 0, none⟩ = some (.int .i64 0) := fun o => cell_alloc_h (by simp [go_sem, r0, r1, r2, r3]) o
    have rz1 : ∀ o, (((((w1.setCell ⟨w.heap.size, 0, none⟩ (.int .i64 0)).setCell ⟨w.heap.size, 1, none⟩ (.int .i64 0)).setCell ⟨w.heap.size, 2, none⟩ (.int .i64 0)).setCell ⟨w.heap.size, 3, none⟩ (.int .i64 0)).alloc o).cell? ⟨w.heap.size, 1, none⟩ = some (.int .i64 0) := fun o => cell_alloc_h (by simp [go_sem, r0, r1, r2, r3]) o
    have rz2 : ∀ o, (((((w1.setCell ⟨w.heap.size, 0, none⟩ (.int .i64 0)).setCell ⟨w.heap.size, 1, none⟩ (.int .i64 0)).setCell ⟨w.heap.size, 2, none⟩ (.int .i64 0)).setCell ⟨w.heap.size, 3, none⟩ (.int .i64 0)).alloc o).cell? ⟨w.heap.size, 2, none⟩ = some (.int .i64 0) := fun o => cell_alloc_h (by simp [go_sem, r0, r1, r2, r3]) o
    have rz3 : ∀ o, (((((w1.setCell ⟨w.heap.size, 0, none⟩ (.int .i64 0)).setCell ⟨w.heap.size, 1, none⟩ (.int .i64 0)).setCell ⟨w.heap.size, 2, none⟩ (.int .i64 0)).setCell ⟨w.heap.size, 3, none⟩ (.int .i64 0)).alloc o).cell? ⟨w.heap.size, 3, none⟩ = some (.int .i64 0) := fun o => cell_alloc_h (by simp [go_sem, r0, r1, r2, r3]) o
    refine bodyPost_ret (v := .tuple #[.agg #[.int .i64 0, .int .i64 0, .int .i64 0, .int .i64 0], .bool false]) (by simp [results, Tryd.results57, go_sem, rz0, rz1, rz2, rz3]) rfl ⟨v, rfl, ?_⟩
    have B2 : Below w.heap.size w (((((w1.setCell ⟨w.heap.size, 0, none⟩ (.int .i64 0)).setCell ⟨w.heap.size, 1, none⟩ (.int .i64 0)).setCell ⟨w.heap.size, 2, none⟩ (.int .i64 0)).setCell ⟨w.heap.size, 3, none⟩ (.int .i64 0)).alloc (.cells #[.int .i64 0, .int .i64 0, .int .i64 0, .int .i64 0] 86)) :=
      ((((B1.setCell (Nat.le_refl _) _).setCell (Nat.le_refl _) _).setCell (Nat.le_refl _) _).setCell (Nat.le_refl _) _).alloc (by simp; omega) _
    exact ⟨h.below B2, Tn.of_below B2⟩
  | cons x T =>
    have hR : headR (x :: T) = .tuple #[valE x, .bool true] := rfl
    rw [hR] at hle ⊢
    clear hR
    unfold valE at hle ⊢
    go_enter Tryd.func57, Tryd.ntmps57
    go_wp2_with fail
    have h1 := h.below ((Below.refl w.heap.size w).alloc (Nat.le_refl _) (.cells #[.int .i64 0, .int .i64 0, .int .i64 0, .int .i64 0] 86))
    refine (hle _ h1).mono ?_
    rintro e w1 ⟨rfl, hb1⟩
    go_upto_region 5 with fail
    refine wp_named fun X1 hX1 => ?_
    have hs1 : w.heap.size < w1.heap.size := by have := hb1.size; simp at this; omega
    have B1 : Below w.heap.size w w1 := ((Below.refl w.heap.size w).alloc (Nat.le_refl _) _).trans (hb1.mono (by simp))
    have HB : Bks X1 w.heap.size w1.heap.size (w1.heap.size + 1) x ∧ Below w.heap.size w X1 ∧ w1.heap.size + 1 < X1.heap.size := by
      rw [hX1]
      refine ⟨⟨?_, ?_, ?_⟩, ?_, ?_⟩
      · rw [Below.heap_alloc _ _ _ (by simp; omega), Below.heap_alloc _ _ _ hs1, hb1.block _ (by simp)]
        exact heap_alloc_new w _
      · rw [Below.heap_alloc _ _ _ (by simp)]
        exact heap_alloc_new w1 _
      · have := heap_alloc_new (w1.alloc (.cells #[.int .i64 x.k, .int .i64 x.i, .int .i64 x.p, .int .i64 x.q] 86)) (.cells #[.int .i64 0, .int .i64 0, .int .i64 0, .int .i64 0] 86)
        simpa using this
      · exact (B1.alloc (by omega) _).alloc (by simp; omega) _
      · simp
    obtain ⟨HBk, HBw, hs2⟩ := HB
    clear hX1 hb1 B1
    obtain ⟨rb, hrb⟩ : ∃ rb, rb = w.heap.size := ⟨_, rfl⟩
    obtain ⟨xb, hxb⟩ : ∃ xb, xb = w1.heap.size := ⟨_, rfl⟩
    have HRB : Hid (rb = w.heap.size) := hrb
    rw [← hrb, ← hxb] at HBk
    rw [← hxb] at hs1 hs2
    rw [← hrb] at hs1
    rw [← hrb, ← hxb]
    clear hxb
    have h3 := h.below HBw
    clear hrb
    have hlt := h.lt
    have hv := World.ownsRow.lt h.row
    have hrow := h3.row
    obtain ⟨n, hn⟩ : ∃ n, n = (x :: T).length := ⟨_, rfl⟩
    obtain ⟨b, cap, rfl⟩ : ∃ b cap, v = .slice (some ⟨b, 0, none⟩) n cap := by
      rcases ownsRow_forms h.row with ⟨rfl, h0⟩ | ⟨b, cap, rfl⟩
      · simp at h0
      · exact ⟨_, _, by rw [hn]⟩
    have hbl := (hv b rfl).2
    have hgb : g ≠ b := fun e => h.ne (by rw [e]; rfl)
    have hn0 : 0 < n := by rw [hn]; simp
    obtain ⟨z, hz⟩ : ∃ z, (x :: T)[n - 1]? = some z := ⟨_, List.getElem?_eq_getElem (by omega)⟩
    have hZ := hrow.at' hz
    have c1 : X1.cell? ⟨g, 1, none⟩ = some (.slice (some ⟨b, 0, none⟩) n cap) := by rw [cell_of_row X1 g 1 _ _ _ h3.at_]; rfl
    have hX0 := hrow.at' (i := 0) (x := x) rfl
    rw [Nat.zero_mul] at hX0
    have fz := hrow.free
    have e1 := cell_regrown c1
    obtain ⟨m, hm⟩ : ∃ m, m = n - 1 := ⟨_, rfl⟩
    rw [← hm] at hZ hz
    have hmn : m < n := by omega
    have hmle : m ≤ 1099511627776 := by omega
    have hmi : (n : Int) - 1 = ((m : Nat) : Int) := by omega
    have i0 : 0 ≤ (m : Int) ∧ (m : Int) < (n : Int) := by omega
    have i1 : (0 : Int) < (n : Int) := by omega
    have HN : Hid (n = (x :: T).length) := hn
    have HM : Hid (m = n - 1) := hm
    have HZ : Hid ((x :: T)[m]? = some z) := hz
    clear hn hm hz
    obtain ⟨z1, z2, z3, z4, hz5⟩ := z
    obtain ⟨hZ1, hZ2, hZ3, hZ4⟩ := hZ
    dsimp only at hZ1 hZ2 hZ3 hZ4
    have e2 := cell_regrown hZ1
    have e3 := cell_regrown hZ2
    have e4 := cell_regrown hZ3
    have e5 := cell_regrown hZ4
    go_wp2_with fail
    refine wp_region_quiet_tail (C := fun w' => ∃ p : Regrown, w' = grow (redrawn X1 p.d) p.os) 11 (by kernel_rfl) (by kernel_rfl) ⟨⟨_, #[]⟩, by rw [grow_empty]; rfl⟩ ?_
    simp only [List.take_succ_cons, List.take_zero, List.drop_succ_cons, List.drop_zero]
    repeat (go_big_quiet_step (fail))
    refine wpQuiet_nil ?_
    intro W5 hw'
    have hb5 : Below X1.heap.size X1 W5 := by
      obtain ⟨⟨dq, osq⟩, rfl⟩ := hw'
      exact below_regrown _ _ _
    clear hw'
    have hrow5 := hrow.below hb5
    have h5 := h3.below hb5
    have HBk5 := HBk.below hb5 trivial
    clear HBk
    have HB5 := HBw.trans (hb5.mono HBw.size)
    have hs5 : X1.heap.size ≤ W5.heap.size := hb5.size
    have a0 := hrow5.at' (i := 0) (x := x) rfl
    rw [Nat.zero_mul] at a0
    have f0 := hrow5.free
    obtain ⟨p5, g5⟩ := hrow5.put (i := 0) (by simp) ⟨z1, z2, z3, z4, hz5⟩
    rw [Nat.zero_mul] at p5 g5
    have hp5 := h5.at_.grown g5 hgb
    have hrbv := HRB.out
    have HBk6 := HBk5.grown g5 (by omega) (by omega) (by omega)
    clear hrbv
    clear HBk5
    unfold putE at p5 g5 hp5 HBk6
    dsimp only at p5 g5 hp5 HBk6
    obtain ⟨a01, a02, a03, a04⟩ := a0
    rw [Nat.zero_add] at a02 a03 a04
    simp only [Nat.zero_add] at p5 g5 hp5 HBk6
    clear e1 e2 e3 e4 e5 hb5 hZ1 hZ2 hZ3 hZ4 hX0 fz hrow c1 hrow5 h5
    go_upto_region 7 with fail
    refine wp_named fun X6 hX6 => ?_
    rw [← hX6] at p5 g5 hp5 HBk6
    have hs6 : W5.heap.size ≤ X6.heap.size := g5.size
    have G6 : w.grownBy X6 (some b) := grownBy_trans ⟨HB5.os, HB5.tape, HB5.output, HB5.size, fun k hk _ => HB5.block k hk⟩ g5
    have c6 : X6.cell? ⟨g, 1, none⟩ = some (.slice (some ⟨b, 0, none⟩) n cap) := by rw [cell_of_row X6 g 1 _ _ _ hp5]; rfl
    clear hX6 g5 f0 a01 a02 a03 a04 HBw HB5
    have hm6 : m < ((x :: T).set 0 ⟨z1, z2, z3, z4, hz5⟩).length := by rw [List.length_set, ← HN.out]; exact hmn
    obtain ⟨y, hy⟩ : ∃ y, ((x :: T).set 0 ⟨z1, z2, z3, z4, hz5⟩)[m]? = some y := ⟨_, List.getElem?_eq_getElem hm6⟩
    have hY := p5.at' hy
    have f6 := p5.free
    have n0 : X6.cell? ⟨xb + 1, 0, none⟩ = some (.int .i64 0) := by rw [cell_of_row X6 _ 0 _ _ _ HBk6.n]; rfl
    have n1 : X6.cell? ⟨xb + 1, 1, none⟩ = some (.int .i64 0) := by rw [cell_of_row X6 _ 1 _ _ _ HBk6.n]; rfl
    have n2 : X6.cell? ⟨xb + 1, 2, none⟩ = some (.int .i64 0) := by rw [cell_of_row X6 _ 2 _ _ _ HBk6.n]; rfl
    have n3 : X6.cell? ⟨xb + 1, 3, none⟩ = some (.int .i64 0) := by rw [cell_of_row X6 _ 3 _ _ _ HBk6.n]; rfl
    have e1 := cell_regrown c6
    have e2 := cell_regrown n0
    have e3 := cell_regrown n1
    have e4 := cell_regrown n2
    have e5 := cell_regrown n3
    clear c6 n0 n1 n2 n3 hy
    refine wp_region_quiet_tail (C := fun w' => ∃ p : Regrown, w' = grow (redrawn X6 p.d) p.os) 6 (by kernel_rfl) (by kernel_rfl) ⟨⟨_, #[]⟩, by rw [grow_empty]; rfl⟩ ?_
    simp only [List.take_succ_cons, List.take_zero, List.drop_succ_cons, List.drop_zero]
    repeat (go_big_quiet_step (fail))
    refine wpQuiet_nil ?_
    intro W7 hw'
    have hb7 : Below X6.heap.size X6 W7 := by
      obtain ⟨⟨dq, osq⟩, rfl⟩ := hw'
      exact below_regrown _ _ _
    clear hw'
    have hrow7 := p5.below hb7
    have h7 := hp5.below hb7
    have HBk7 := HBk6.below hb7 trivial
    have hY7 := hY.below hb7
    have f7 := hrow7.free
    obtain ⟨hY1, hY2, hY3, hY4⟩ := hY7
    have G7 := grownBy_below G6 hb7
    have hs7 : X6.heap.size ≤ W7.heap.size := hb7.size
    clear e1 e2 e3 e4 e5 hY G6 f6 p5 hp5 HBk6
    obtain ⟨p7, g7⟩ := hrow7.put hm6 zeroE
    have hp7 := h7.grown g7 hgb
    have hrbv := HRB.out
    have HBk8 := HBk7.grown g7 (by omega) (by omega) (by omega)
    clear hrbv HBk7 h7 hrow7
    unfold putE zeroE at p7 g7 hp7 HBk8
    dsimp only at p7 g7 hp7 HBk8
    go_upto_region 8 with fail
    refine wp_named fun X8 hX8 => ?_
    rw [← hX8] at p7 g7 hp7 HBk8
    have G8 := grownBy_trans G7 g7
    have hs8 : W7.heap.size ≤ X8.heap.size := g7.size
    clear hX8 g7 G7 hY1 hY2 hY3 hY4 f7 hb7
    have p8 := RowE.pop (by rw [show m + 1 = n by omega]; exact p7)
    have c8 : X8.cell? ⟨g, 1, none⟩ = some (.slice (some ⟨b, 0, none⟩) n cap) := by rw [cell_of_row X8 g 1 _ _ _ hp7]; rfl
    have f8 : X8.frozen? ⟨g, 1, none⟩ = false := frozen_of_row X8 g 1 _ _ hp7
    have i3 : (m : Int) ≤ (cap : Int) := by
      rcases p7.2 with ⟨h0, _⟩ | ⟨b', cap', cur', h0, _, _, h1, _⟩
      · cases h0
      · cases h0; omega
    obtain ⟨M, hM⟩ : ∃ M, M = (((x :: T).set 0 ⟨z1, z2, z3, z4, hz5⟩).set m (⟨0, 0, 0, 0, by decide⟩ : El)).take m := ⟨_, rfl⟩
    rw [← hM] at p8
    have hMl : M.length = m := by rw [hM]; simp; simp at hm6; omega
    have hMe : M = ((x :: T).set 0 ⟨z1, z2, z3, z4, hz5⟩).take m := by
      rw [hM]
      apply List.ext_getElem?
      intro q
      rw [List.getElem?_take, List.getElem?_take]
      by_cases hq : q < m
      · rw [if_pos hq, if_pos hq, List.getElem?_set_ne (by omega)]
      · rw [if_neg hq, if_neg hq]
    have HME : Hid (M = ((x :: T).set 0 ⟨z1, z2, z3, z4, hz5⟩).take m) := hMe
    have HML : Hid (M.length = m) := hMl
    clear hM hMe
    have hp9 := hp7.turn (.slice (some ⟨b, 0, none⟩) m cap)
    have p9 : RowE (X8.setCell ⟨g, 1, none⟩ (.slice (some ⟨b, 0, none⟩) m cap)) base (.slice (some ⟨b, 0, none⟩) m cap) M := ownsRow_setCell_other p8 (fun e => hgb (by cases e; rfl)) _
    have HBk9 : Bks (X8.setCell ⟨g, 1, none⟩ (.slice (some ⟨b, 0, none⟩) m cap)) rb xb (xb + 1) x := by
      have hrbv := HRB.out
      exact HBk8.grown (b := g) ⟨rfl, rfl, rfl, by simp, fun k _ hk => heap_setCell_other X8 ⟨g, 1, none⟩ k _ (fun e => hk (by simp [e]))⟩ (by omega) (by omega) (by omega)
    have HS := sink_any g b cap base _ M 0 _ hp9 (by rw [hMl]; exact p9) hgb (by rw [hMl]; omega) (Nat.zero_le _)
    rw [hMl] at HS
    obtain ⟨R, hR⟩ : ∃ R, R = sinkF keyE m M 0 := ⟨_, rfl⟩
    rw [← hR] at HS
    have HRR : Hid (R = sinkF keyE m M 0) := hR
    clear hR hMl
    go_upto_region 9 with fail
    refine wp_named fun X9 hX9 => ?_
    rw [← hX9] at HS HBk9
    have hs9 : X8.heap.size ≤ X9.heap.size := by rw [hX9]; simp
    have G9 : ∀ k, k < w.heap.size → k ≠ g → k ≠ b → X9.heap[k]? = w.heap[k]? := by
      intro k hk h1 h2
      rw [hX9, heap_setCell_other X8 ⟨g, 1, none⟩ k _ h1, G8.block k hk (by simpa using h2)]
    have G9s : X9.os = w.os ∧ X9.tape = w.tape ∧ X9.output = w.output := by rw [hX9]; exact ⟨G8.os, G8.tape, G8.output⟩
    have hp9' : HpAt X9 g (.slice (some ⟨b, 0, none⟩) m cap) := by rw [hX9]; exact hp9
    have c9 : X9.cell? ⟨g, 1, none⟩ = some (.slice (some ⟨b, 0, none⟩) m cap) := by rw [cell_of_row X9 g 1 _ _ _ hp9']; rfl
    have G8s := G8.size
    clear hX9 hp9 p9 p8 c8 f8 i3 hp7 p7 G8 HBk8
    go_wp2_with fail
    refine HS.mono ?_
    rintro e w2 ⟨rfl, hrw, hgr⟩
    have hpop : popF keyE (x :: T) = R := by
      unfold popF
      rw [← HN.out, show n - 1 = m from HM.out.symm, HZ.out, HRR.out, HME.out]
    have hsz : w.heap.size ≤ w2.heap.size := Nat.le_trans G8s (Nat.le_trans hs9 hgr.size)
    have hT2 : Tn g (.slice (some ⟨b, 0, none⟩) n cap) (.slice (some ⟨b, 0, none⟩) m cap) w w2 :=
      ⟨hgr.os.trans G9s.1, hgr.tape.trans G9s.2.1, hgr.output.trans G9s.2.2, hsz, fun k hk h1 h2 => by
        have h2' : k ≠ b := fun e => h2 (by rw [e]; rfl)
        rw [hgr.block k (by omega) (by simpa using h2')]
        exact G9 k hk h1 h2', fun q hq => .inl hq⟩
    have hp2 := hp9'.grown hgr hgb
    have hrbv := HRB.out
    have HBk2 := HBk9.grown hgr (by omega) (by omega) (by omega)
    clear HBk9 HS hp9' c9
    have x0 : w2.cell? ⟨xb, 0, none⟩ = some (.int .i64 x.k) := by rw [cell_of_row w2 _ 0 _ _ _ HBk2.x]; rfl
    have x1 : w2.cell? ⟨xb, 1, none⟩ = some (.int .i64 x.i) := by rw [cell_of_row w2 _ 1 _ _ _ HBk2.x]; rfl
    have x2 : w2.cell? ⟨xb, 2, none⟩ = some (.int .i64 x.p) := by rw [cell_of_row w2 _ 2 _ _ _ HBk2.x]; rfl
    have x3 : w2.cell? ⟨xb, 3, none⟩ = some (.int .i64 x.q) := by rw [cell_of_row w2 _ 3 _ _ _ HBk2.x]; rfl
    have r0 : w2.cell? ⟨rb, 0, none⟩ = some (.int .i64 0) := by rw [cell_of_row w2 _ 0 _ _ _ HBk2.r]; rfl
    have r1 : w2.cell? ⟨rb, 1, none⟩ = some (.int .i64 0) := by rw [cell_of_row w2 _ 1 _ _ _ HBk2.r]; rfl
    have r2 : w2.cell? ⟨rb, 2, none⟩ = some (.int .i64 0) := by rw [cell_of_row w2 _ 2 _ _ _ HBk2.r]; rfl
    have r3 : w2.cell? ⟨rb, 3, none⟩ = some (.int .i64 0) := by rw [cell_of_row w2 _ 3 _ _ _ HBk2.r]; rfl
    have q0 : w2.frozen? ⟨rb, 0, none⟩ = false := frozen_of_row w2 rb 0 _ _ HBk2.r
    have q1 : w2.frozen? ⟨rb, 1, none⟩ = false := frozen_of_row w2 rb 1 _ _ HBk2.r
    have q2 : w2.frozen? ⟨rb, 2, none⟩ = false := frozen_of_row w2 rb 2 _ _ HBk2.r
    have q3 : w2.frozen? ⟨rb, 3, none⟩ = false := frozen_of_row w2 rb 3 _ _ HBk2.r
    clear hrbv
    go_wp2_with fail
    have k0 : ∀ (x0 : World), x0 = (((w2.setCell ⟨rb, 0, none⟩ (.int .i64 x.k)).setCell ⟨rb, 1, none⟩ (.int .i64 x.i)).setCell ⟨rb, 2, none⟩ (.int .i64 x.p)).setCell ⟨rb, 3, none⟩ (.int .i64 x.q) → x0.cell? ⟨rb, 0, none⟩ = some (.int .i64 x.k) ∧ x0.cell? ⟨rb, 1, none⟩ = some (.int .i64 x.i) ∧ x0.cell? ⟨rb, 2, none⟩ = some (.int .i64 x.p) ∧ x0.cell? ⟨rb, 3, none⟩ = some (.int .i64 x.q) := by
      rintro x0 rfl
      refine ⟨?_, ?_, ?_, ?_⟩ <;> simp [go_sem, r0, r1, r2, r3]
    obtain ⟨k1, k2, k3, k4⟩ := k0 _ rfl
    refine bodyPost_ret (v := .tuple #[.agg #[.int .i64 x.k, .int .i64 x.i, .int .i64 x.p, .int .i64 x.q], .bool true]) (by simp [results, Tryd.results57, go_sem, k1, k2, k3, k4]) rfl ⟨.slice (some ⟨b, 0, none⟩) m cap, rfl, ?_⟩
    have hrbv := HRB.out
    have B2 : Below w.heap.size w2 ((((w2.setCell ⟨rb, 0, none⟩ (.int .i64 x.k)).setCell ⟨rb, 1, none⟩ (.int .i64 x.i)).setCell ⟨rb, 2, none⟩ (.int .i64 x.p)).setCell ⟨rb, 3, none⟩ (.int .i64 x.q)) :=
      ((((Below.refl _ w2).setCell (p := ⟨rb, 0, none⟩) (by show w.heap.size ≤ rb; omega) _).setCell (p := ⟨rb, 1, none⟩) (by show w.heap.size ≤ rb; omega) _).setCell (p := ⟨rb, 2, none⟩) (by show w.heap.size ≤ rb; omega) _).setCell (p := ⟨rb, 3, none⟩) (by show w.heap.size ≤ rb; omega) _
    rw [hpop]
    have hrb2 : (Value.slice (some ⟨b, 0, none⟩) m cap).ownBlock ≠ some rb := fun e => by
      have e2 : b = rb := by cases e; rfl
      omega
    refine ⟨⟨h.low, (B2.block g (by omega)).trans hp2, ownsRow_setCell_other (ownsRow_setCell_other (ownsRow_setCell_other (ownsRow_setCell_other hrw hrb2 _) hrb2 _) hrb2 _) hrb2 _, fun e => hgb (by cases e; rfl)⟩, ?_⟩
    exact ⟨B2.os.trans hT2.os, B2.tape.trans hT2.tape, B2.output.trans hT2.output, Nat.le_trans hT2.size B2.size, fun k hk h1 h2 => (B2.block k hk).trans (hT2.block k hk h1 h2), hT2.moved⟩
end Go.Proofs.YtjbdhakogbolkaaDoor.HQ
end
section
/- heap's Push: its contract. -/
namespace Go.Proofs.YtjbdhakogbolkaaDoor.HQ
open Go.RowKit Go.Joins Go.Sort
set_option linter.unusedVariables false
set_option linter.unusedSimpArgs false
set_option maxRecDepth 100000
theorem info_parts {T : TypeId} {z : Value} {k b : Nat} (h : (Tryd.prog.info? T).map (fun i => (i.zero, i.size, i.bytes)) = some (some z, k, b)) : ∃ i, Tryd.prog.info? T = some i ∧ i.zero = some z ∧ i.size = k ∧ i.bytes = b := by
  cases hi : Tryd.prog.info? T with
  | none => rw [hi] at h; cases h
  | some i =>
    rw [hi] at h
    simp only [Option.map_some, Option.some.injEq, Prod.mk.injEq] at h
    exact ⟨i, rfl, h.1, h.2.1, h.2.2⟩
theorem infoE : (Tryd.prog.info? 86).map (fun i => (i.zero, i.size, i.bytes)) = some (some (valE zeroE), 4, 32) := by kernel_rfl
theorem cellsE_one : ∀ (x : El), ∀ v ∈ cellsE x, v.oneCell' = true := by
  intro x v hv
  unfold cellsE at hv
  simp at hv
  rcases hv with rfl | rfl | rfl | rfl <;> rfl
theorem run_push (W : World) (base : Nat) (v : Value) (L : List El) (x : El) (b : Nat) (hown : RowE W base v L) (hx : W.heap[b]? = some (.cells (cellsE x).toArray 86 (0, 0))) (hb : base ≤ W.heap.size) (hl : L.length + 1 ≤ 2199023255552) :
    ∃ v' w', (Builtin.append_ #[117, 117] 117 #[v, .slice (some ⟨b, 0, none⟩) 1 1]).run Tryd.prog W = .ok v' w' ∧ RowE w' base v' (L ++ [x]) ∧ W.grownBy w' v.ownBlock ∧ Moved v v' W.heap.size := by
  obtain ⟨i0, hi0, hz0, hz1, hz2⟩ := info_parts infoE
  exact run_own_g 117 86 i0 _ 4 32 cellsE (fun _ => rfl) (by omega) cellsE_one Tryd.underlying117 hi0 hz0 hz1 hz2 rfl W base v L x b 1 hown hx hb (by omega) (by omega)
set_option maxHeartbeats 1000000 in
theorem push_any (base g : Nat) (v : Value) (L : List El) (x : El) (w : World) (h : HeapAt w base g v L) (hlen : L.length + 1 ≤ 1099511627776) :
    Calls Tryd.prog 92 #[.pointer (some ⟨g, 0, none⟩), valE x] w fun e w' => ∃ v', e = .returned (.tuple #[]) ∧ HeapAt w' base g v' (pushF keyE L x) ∧ Tn g v v' w w' := by
  have hlt := h.lt
  have hlow := h.low
  have hown := World.ownsRow.lt h.row
  obtain ⟨x1, x2, x3, x4, hx5⟩ := x
  obtain ⟨W1, hW1⟩ : ∃ W1, W1 = w.alloc (.cells #[.int .i64 x1, .int .i64 x2, .int .i64 x3, .int .i64 x4] 86) := ⟨_, rfl⟩
  have hbW : Below w.heap.size w W1 := by rw [hW1]; exact (Below.refl _ _).alloc (Nat.le_refl _) _
  have h1 := h.below hbW
  have hxb : W1.heap[w.heap.size]? = some (.cells #[.int .i64 x1, .int .i64 x2, .int .i64 x3, .int .i64 x4] 86 (0, 0)) := by rw [hW1]; exact heap_alloc_new w _
  have c1 : W1.cell? ⟨g, 1, none⟩ = some v := by rw [cell_of_row W1 g 1 _ _ _ h1.at_]; rfl
  have x0 : W1.cell? ⟨w.heap.size, 0, none⟩ = some (.int .i64 x1) := by rw [cell_of_row W1 _ 0 _ _ _ hxb]; rfl
  have x1' : W1.cell? ⟨w.heap.size, 1, none⟩ = some (.int .i64 x2) := by rw [cell_of_row W1 _ 1 _ _ _ hxb]; rfl
  have x2' : W1.cell? ⟨w.heap.size, 2, none⟩ = some (.int .i64 x3) := by rw [cell_of_row W1 _ 2 _ _ _ hxb]; rfl
  have x3' : W1.cell? ⟨w.heap.size, 3, none⟩ = some (.int .i64 x4) := by rw [cell_of_row W1 _ 3 _ _ _ hxb]; rfl
  have hs1 : W1.heap.size = w.heap.size + 1 := by rw [hW1]; simp
  obtain ⟨V, hV⟩ : ∃ V, V = W1.drew.alloc (.cells #[.int .i64 x1, .int .i64 x2, .int .i64 x3, .int .i64 x4] 86) := ⟨_, rfl⟩
  have hbV : Below W1.heap.size W1 V := by rw [hV]; exact (Below.refl W1.heap.size W1).drew.alloc (Nat.le_refl _) _
  have hsV : V.heap.size = W1.heap.size + 1 := by rw [hV]; simp
  obtain ⟨v', w2, hr, hrow, hgr, hmv⟩ := run_push V base v L ⟨x1, x2, x3, x4, hx5⟩ W1.heap.size ((h1.row).below hbV) (by rw [hV]; exact heap_alloc_new W1.drew _) (by omega) (by omega)
  obtain ⟨M, hM⟩ : ∃ M, M = L ++ [⟨x1, x2, x3, x4, hx5⟩] := ⟨_, rfl⟩
  have hpf : pushF keyE L ⟨x1, x2, x3, x4, hx5⟩ = riseF keyE M.length M (M.length - 1) := by rw [hM]; unfold pushF; simp
  have hMl : M.length = L.length + 1 := by rw [hM]; simp
  rw [← hM] at hrow
  rw [hpf]
  clear hM hpf
  obtain ⟨n, hn⟩ : ∃ n, n = M.length := ⟨_, rfl⟩
  obtain ⟨b, cap, rfl⟩ : ∃ b cap, v' = .slice (some ⟨b, 0, none⟩) n cap := by
    rcases ownsRow_forms hrow with ⟨rfl, h0⟩ | ⟨b, cap, rfl⟩
    · omega
    · exact ⟨_, _, by rw [hn]⟩
  have HN : Hid (n = M.length) := hn
  have HML : Hid (M.length = L.length + 1) := hMl
  obtain ⟨R, hR⟩ : ∃ R, R = riseF keyE M.length M (M.length - 1) := ⟨_, rfl⟩
  rw [← hR]
  have HR : Hid (R = riseF keyE M.length M (M.length - 1)) := hR
  clear hn hMl hR
  unfold valE
  go_enter Tryd.func92, Tryd.ntmps92
  go_upto_region 1 with fail
  rw [← hW1]
  refine wp_region_heldtail 8 (fun w' : World => w'.cell? ⟨g, 1, none⟩ = some v ∧ w'.cell? ⟨w.heap.size, 0, none⟩ = some (.int .i64 x1) ∧ w'.cell? ⟨w.heap.size, 1, none⟩ = some (.int .i64 x2) ∧ w'.cell? ⟨w.heap.size, 2, none⟩ = some (.int .i64 x3) ∧ w'.cell? ⟨w.heap.size, 3, none⟩ = some (.int .i64 x4)) (by kernel_rfl) (by kernel_rfl) ?_
  refine HL_take (i := 0) (.pointer (some ⟨g, 0, none⟩)) (by kernel_rfl) rfl (by omega) (by kernel_rfl) (by kernel_rfl) (by kernel_rfl) (fun _ _ _ h => h) (.inl ⟨by kernel_rfl, fun w' hw' => by obtain ⟨q1, q2, q3, q4, q5⟩ := hw'; go_simp⟩) ⟨c1, x0, x1', x2', x3'⟩ ?_
  simp only [Act.put, List.getElem_toArray, List.getElem_cons_zero, List.getElem_cons_succ, List.setIfInBounds_toArray, List.set_cons_zero, List.set_cons_succ]
  refine HL_take (i := 1) (.pointer (some ⟨g, 0, none⟩)) (by kernel_rfl) rfl (by omega) (by kernel_rfl) (by kernel_rfl) (by kernel_rfl) (fun _ _ _ h => h) (.inl ⟨by kernel_rfl, fun w' hw' => by obtain ⟨q1, q2, q3, q4, q5⟩ := hw'; go_simp⟩) ⟨c1, x0, x1', x2', x3'⟩ ?_
  simp only [Act.put, List.getElem_toArray, List.getElem_cons_zero, List.getElem_cons_succ, List.setIfInBounds_toArray, List.set_cons_zero, List.set_cons_succ]
  refine HL_take (i := 2) (.pointer (some ⟨g, 0, none⟩)) (by kernel_rfl) rfl (by omega) (by kernel_rfl) (by kernel_rfl) (by kernel_rfl) (fun _ _ _ h => h) (.inl ⟨by kernel_rfl, fun w' hw' => by obtain ⟨q1, q2, q3, q4, q5⟩ := hw'; go_simp⟩) ⟨c1, x0, x1', x2', x3'⟩ ?_
  simp only [Act.put, List.getElem_toArray, List.getElem_cons_zero, List.getElem_cons_succ, List.setIfInBounds_toArray, List.set_cons_zero, List.set_cons_succ]
  refine HL_take (i := 3) (.pointer (some ⟨g, 1, none⟩)) (by kernel_rfl) rfl (by omega) (by kernel_rfl) (by kernel_rfl) (by kernel_rfl) (fun _ _ _ h => h) (.inl ⟨by kernel_rfl, fun w' hw' => by obtain ⟨q1, q2, q3, q4, q5⟩ := hw'; go_simp⟩) ⟨c1, x0, x1', x2', x3'⟩ ?_
  simp only [Act.put, List.getElem_toArray, List.getElem_cons_zero, List.getElem_cons_succ, List.setIfInBounds_toArray, List.set_cons_zero, List.set_cons_succ]
  refine HL_take (i := 4) (v) (by kernel_rfl) rfl (by omega) (by kernel_rfl) (by kernel_rfl) (by kernel_rfl) (fun _ _ _ h => h) (.inl ⟨by kernel_rfl, fun w' hw' => by obtain ⟨q1, q2, q3, q4, q5⟩ := hw'; go_simp⟩) ⟨c1, x0, x1', x2', x3'⟩ ?_
  simp only [Act.put, List.getElem_toArray, List.getElem_cons_zero, List.getElem_cons_succ, List.setIfInBounds_toArray, List.set_cons_zero, List.set_cons_succ]
  refine HL_take (i := 5) (.agg #[.int .i64 x1, .int .i64 x2, .int .i64 x3, .int .i64 x4]) (by kernel_rfl) rfl (by omega) (by kernel_rfl) (by kernel_rfl) (by kernel_rfl) (fun _ _ _ h => h) (.inl ⟨by kernel_rfl, fun w' hw' => by obtain ⟨q1, q2, q3, q4, q5⟩ := hw'; go_simp⟩) ⟨c1, x0, x1', x2', x3'⟩ ?_
  simp only [Act.put, List.getElem_toArray, List.getElem_cons_zero, List.getElem_cons_succ, List.setIfInBounds_toArray, List.set_cons_zero, List.set_cons_succ]
  refine HL_one (i := 6) rfl (by omega) (by kernel_rfl) rfl ?_
  refine wp_value (v := .slice (some ⟨W1.heap.size, 0, none⟩) 1 1) (w' := V) (by rw [hV]; go_simp) ?_
  refine ⟨⟨(hbV.cell (p := ⟨g, 1, none⟩) (by show g < _; omega)).trans c1, (hbV.cell (p := ⟨w.heap.size, 0, none⟩) (by show w.heap.size < _; omega)).trans x0, (hbV.cell (p := ⟨w.heap.size, 1, none⟩) (by show w.heap.size < _; omega)).trans x1', (hbV.cell (p := ⟨w.heap.size, 2, none⟩) (by show w.heap.size < _; omega)).trans x2', (hbV.cell (p := ⟨w.heap.size, 3, none⟩) (by show w.heap.size < _; omega)).trans x3'⟩, ?_⟩
  simp only [Act.put, List.getElem_toArray, List.getElem_cons_zero, List.getElem_cons_succ, List.setIfInBounds_toArray, List.set_cons_zero, List.set_cons_succ]
  refine HL_one (i := 7) rfl (by omega) (by kernel_rfl) rfl ?_
  refine wp_append (.tmp 8) (.tmp 10) 117 117 rfl v (.slice (some ⟨W1.heap.size, 0, none⟩) 1 1) rfl rfl (fun v2 w3 => v2 = .slice (some ⟨b, 0, none⟩) n cap ∧ w3 = w2) ⟨_, w2, hr, rfl, rfl⟩ ?_
  rintro v2 w3 ⟨e1, e2⟩
  rw [e1, e2]
  clear e1 e2 v2 w3
  have hbg : ∀ k, k < w.heap.size + 1 → some k ≠ v.ownBlock → w2.heap[k]? = W1.heap[k]? := fun k hk hne => (hgr.block k (by omega) hne).trans (hbV.block k (by omega))
  have hne1 : some g ≠ v.ownBlock := fun e => h.ne e.symm
  have hne2 : some w.heap.size ≠ v.ownBlock := fun e => by
    have := hown w.heap.size e.symm
    omega
  have hp2 : HpAt w2 g v := (hbg g (by omega) hne1).trans h1.at_
  have hx2 : w2.heap[w.heap.size]? = some (.cells #[.int .i64 x1, .int .i64 x2, .int .i64 x3, .int .i64 x4] 86 (0, 0)) := (hbg _ (by omega) hne2).trans hxb
  have c2 : w2.cell? ⟨g, 1, none⟩ = some v := by rw [cell_of_row w2 g 1 _ _ _ hp2]; rfl
  have f2 : w2.frozen? ⟨g, 1, none⟩ = false := frozen_of_row w2 g 1 _ _ hp2
  refine ⟨⟨c2, by rw [cell_of_row w2 _ 0 _ _ _ hx2]; rfl, by rw [cell_of_row w2 _ 1 _ _ _ hx2]; rfl, by rw [cell_of_row w2 _ 2 _ _ _ hx2]; rfl, by rw [cell_of_row w2 _ 3 _ _ _ hx2]; rfl⟩, ?_⟩
  simp only [Act.put, List.getElem_toArray, List.getElem_cons_zero, List.getElem_cons_succ, List.setIfInBounds_toArray, List.set_cons_zero, List.set_cons_succ]
  refine ⟨by kernel_rfl, ?_⟩
  simp only [List.drop_succ_cons, List.drop_zero]
  have hold : ∀ k, k < w.heap.size → k ≠ g → some k ≠ v.ownBlock → w2.heap[k]? = w.heap[k]? := fun k hk _ hne => (hbg k (by omega) hne).trans (hbW.block k hk)
  have hst : w2.os = w.os ∧ w2.tape = w.tape ∧ w2.output = w.output ∧ w.heap.size ≤ w2.heap.size := ⟨hgr.os.trans (hbV.os.trans hbW.os), hgr.tape.trans (hbV.tape.trans hbW.tape), hgr.output.trans (hbV.output.trans hbW.output), Nat.le_trans (by omega) hgr.size⟩
  have hmv' : Moved v (.slice (some ⟨b, 0, none⟩) n cap) w.heap.size := fun q hb => by
    rcases hmv q hb with h3 | h3
    · exact .inl h3
    · exact .inr (by omega)
  clear hbg hx2 hne1 hne2 hgr hbV hbW hr hmv x0 x1' x2' x3' c1 hxb h1 hW1 hV hsV hs1
  have hgb : g ≠ b := fun e => by
    rcases hmv' b rfl with h3 | h3
    · exact h.ne (by rw [e]; exact h3)
    · omega
  have hp3 := hp2.turn (.slice (some ⟨b, 0, none⟩) n cap)
  have p3 : RowE (w2.setCell ⟨g, 1, none⟩ (.slice (some ⟨b, 0, none⟩) n cap)) base (.slice (some ⟨b, 0, none⟩) n cap) M := ownsRow_setCell_other hrow (fun e => hgb (by cases e; rfl)) _
  have HS := rise_any g b cap base (.slice (some ⟨b, 0, none⟩) n cap) M (w2.setCell ⟨g, 1, none⟩ (.slice (some ⟨b, 0, none⟩) n cap)) hp3 (by rw [← HN.out]; exact p3) hgb (by rw [HML.out]; omega) (by rw [HML.out]; omega)
  rw [← HR.out, ← HN.out] at HS
  go_upto_region 2 with fail
  refine wp_named fun X9 hX9 => ?_
  rw [← hX9] at HS hp3
  have G9 : ∀ k, k < w.heap.size → k ≠ g → some k ≠ v.ownBlock → X9.heap[k]? = w.heap[k]? := by
    intro k hk h1 h2
    rw [hX9, heap_setCell_other w2 ⟨g, 1, none⟩ k _ h1, hold k hk h1 h2]
  have hs9 : w.heap.size ≤ X9.heap.size := by rw [hX9]; simp; exact hst.2.2.2
  have G9s : X9.os = w.os ∧ X9.tape = w.tape ∧ X9.output = w.output := by rw [hX9]; exact ⟨hst.1, hst.2.1, hst.2.2.1⟩
  have c9 : X9.cell? ⟨g, 1, none⟩ = some (.slice (some ⟨b, 0, none⟩) n cap) := by rw [cell_of_row X9 g 1 _ _ _ hp3]; rfl
  clear hX9 hp2 c2 f2 hold hst hrow p3
  go_wp2_with fail
  refine HS.mono ?_
  rintro e w4 ⟨rfl, hrw, hgr⟩
  have hp4 := hp3.grown hgr hgb
  clear HS c9
  go_wp2_with fail
  go_end0
  refine ⟨_, rfl, ⟨hlow, hp4, hrw, fun e => hgb (by cases e; rfl)⟩, hgr.os.trans G9s.1, hgr.tape.trans G9s.2.1, hgr.output.trans G9s.2.2, Nat.le_trans hs9 hgr.size, ?_, hmv'⟩
  intro k hk h1 h2
  refine (hgr.block k (by omega) (fun e => ?_)).trans (G9 k hk h1 h2)
  cases e
  rcases hmv' b rfl with h3 | h3
  · exact h2 h3.symm
  · omega
end Go.Proofs.YtjbdhakogbolkaaDoor.HQ
end
section
/- A slice that holds pairs. -/
namespace Go.Proofs.YtjbdhakogbolkaaDoor.HQ
open Go.RowKit Go.Sort Go.Joins
set_option linter.unusedVariables false
/-- The slice that begins at a holds the things l. -/
def SPS (w : World) (a : Option Addr) (l : List El) : Prop :=
  l = [] ∨ ∃ x, a = some x ∧ ∀ j u, (l.flatMap cellsE)[j]? = some u → w.cell? (x.add j) = some u
theorem SPS.below {w w' : World} {a : Option Addr} {l : List El} (h : SPS w a l) (hb : Below w.heap.size w w') : SPS w' a l := by
  rcases h with h | ⟨x, rfl, hc⟩
  · exact .inl h
  · exact .inr ⟨x, rfl, fun j u hu => (hb.cell (World.block_lt_of_cell? w _ (hc j u hu))).trans (hc j u hu)⟩
theorem SPS.cells {w : World} {x : Addr} {l : List El} (h : SPS w (some x) l) : ∀ j u, (l.flatMap cellsE)[j]? = some u → w.cell? (x.add j) = some u := by
  rcases h with rfl | ⟨y, he, hc⟩
  · intro j u hu; simp at hu
  · cases he; exact hc
theorem RowE.sps {w : World} {base n cap : Nat} {a : Option Addr} {L : List El} (h : RowE w base (.slice a n cap) L) : SPS w a L := by
  rcases ownsRow_forms h with ⟨he, h0⟩ | ⟨b, q, he⟩
  · exact .inl (List.length_eq_zero_iff.1 h0)
  · cases he
    refine .inr ⟨_, rfl, fun j u hu => ?_⟩
    exact World.ownsRow.cells h (g := b) rfl j u hu
theorem eq_nil_none (n c : Nat) (W : World) : (binOp BinOp.eql 117 (.slice none n c) (.slice none 0 0)).run Tryd.prog W = .ok (.bool true) W := by kernel_rfl
theorem eq_nil_some (x : Addr) (n c : Nat) (W : World) : (binOp BinOp.eql 117 (.slice (some x) n c) (.slice none 0 0)).run Tryd.prog W = .ok (.bool false) W := by kernel_rfl
end Go.Proofs.YtjbdhakogbolkaaDoor.HQ
end
section
/- heap's Of and New: their contracts. -/
namespace Go.Proofs.YtjbdhakogbolkaaDoor.HQ
open Go.RowKit Go.Joins Go.Sort
set_option linter.unusedVariables false
set_option linter.unusedSimpArgs false
set_option maxRecDepth 100000
theorem clone_any (a : Option Addr) (cap : Nat) (l : List El) (w : World) (hlen : l.length ≤ 1099511627776) (h : SPS w a l) :
    Calls Tryd.prog 73 #[.slice a l.length cap] w fun e w' => ∃ v, e = .returned v ∧ RowE w' w.heap.size v l ∧ Below w.heap.size w w' := by
  cases a with
  | none =>
    have hl : l = [] := by
      rcases h with h | ⟨b, h, _⟩
      · exact h
      · cases h
    subst hl
    have he := eq_nil_none 0 cap
    simp only [List.length_nil]
    go_enter Tryd.func73, Tryd.ntmps73
    go_wp2_with fail
    go_ret
    exact ⟨_, rfl, World.ownsRow_nil _ _ _ _, Below.refl _ _⟩
  | some x =>
    obtain ⟨i0, hi, hz0, hz1, hz2⟩ := info_parts infoE
    have he := eq_nil_some x l.length cap
    have hb : Below w.heap.size w (w.alloc (.cells #[] 86)) := (Below.refl _ w).alloc (Nat.le_refl _) _
    have hown : (w.alloc (.cells #[] 86)).ownsRow w.heap.size 86 4 (.slice (some ⟨w.heap.size, 0, none⟩) 0 0) 0 [] :=
      ⟨rfl, .inr ⟨w.heap.size, 0, #[], rfl, Nat.le_refl _, heap_alloc_new w _, Nat.le_refl _, by simp [maxLen], rfl, rfl⟩⟩
    have hcs := (h.below hb).cells
    have hcs2 : ∀ j u, (l.flatMap cellsE)[j]? = some u → (w.alloc (.cells #[] 86)).cell? (x.add j) = some u := hcs
    obtain ⟨v', w', h1, h2, h3, h4⟩ := run_append_own (P := Tryd.prog) (w.alloc (.cells #[] 86)) w.heap.size 117 117 86 i0 _ 4 32 Tryd.underlying117 hi hz0 hz1 hz2 rfl (by decide) _ 0 [] hown x l.length cap (l.flatMap cellsE) (flatE_length l) hcs2 (fun v hv => by
      obtain ⟨y, _, hy⟩ := List.mem_flatMap.1 hv
      exact cellsE_one y v hy) (by unfold maxLen; omega) (by omega) (by simp)
    rw [Nat.zero_add, List.nil_append] at h2
    have hB : Below w.heap.size w w' := hb.grown h3 (by simp) (fun k hk => by
      have : k = w.heap.size := by simpa [Value.ownBlock] using hk.symm
      omega)
    clear hown h3 h4 hb h hcs hcs2
    go_enter Tryd.func73, Tryd.ntmps73
    go_wp2_with (at_builtin; refine wpList_append_run rfl (.tmp 5) (.tmp 6) 117 117 rfl _ _ rfl rfl _ w' h1 ?_)
    go_ret
    exact ⟨_, rfl, h2, hB⟩
theorem grownBy_of_below {a b : World} {row : Option Nat} (h : Below a.heap.size a b) : a.grownBy b row := ⟨h.os, h.tape, h.output, h.size, fun k hk _ => h.block k hk⟩
set_option maxHeartbeats 1000000 in
theorem of_any (a : Option Addr) (cap : Nat) (L : List El) (w : World) (hlen : L.length ≤ 1099511627776) (h : SPS w a L) :
    Calls Tryd.prog 53 #[lessV, .slice a L.length cap] w fun e w' => ∃ g v, e = .returned (.pointer (some ⟨g, 0, none⟩)) ∧ HeapAt w' w.heap.size g v (ofF keyE L) ∧ Below w.heap.size w w' := by
  have HC := clone_any a cap L w hlen h
  obtain ⟨R, hR⟩ : ∃ R, R = ofF keyE L := ⟨_, rfl⟩
  have HR : Hid (heapF keyE (L.length / 2) L = R) := by rw [hR]; rfl
  rw [← hR]
  clear hR h
  obtain ⟨n, hn⟩ : ∃ n, n = L.length := ⟨_, rfl⟩
  have HN : Hid (n = L.length) := hn
  rw [← hn] at HC hlen ⊢
  clear hn
  have hq : Int.tdiv (n : Int) 2 = ((n / 2 : Nat) : Int) := (Int.ofNat_tdiv _ _).symm
  obtain ⟨m, hm⟩ : ∃ m, m = n / 2 := ⟨_, rfl⟩
  rw [← hm] at hq
  have HM : Hid (m = n / 2) := hm
  have hmn : m ≤ 1099511627776 := by omega
  have hmn2 : m ≤ n := by omega
  clear hm
  unfold lessV
  go_enter Tryd.func53, Tryd.ntmps53
  go_wp2_with fail
  refine HC.mono ?_
  rintro e w1 ⟨v, rfl, hrow, hb1⟩
  clear HC
  have hv := World.ownsRow.lt hrow
  have hb2 : Below w.heap.size w (w1.alloc (.cells #[.func (.func 54) #[] #[], v] 154)) := hb1.alloc hb1.size _
  have hs1 := hb1.size
  obtain ⟨g, hg⟩ : ∃ g, g = w1.heap.size := ⟨_, rfl⟩
  have HG : HeapAt (w1.alloc (.cells #[.func (.func 54) #[] #[], v] 154)) w.heap.size g v L := by
    rw [hg]
    exact ⟨hs1, heap_alloc_new w1 _, hrow.below ((Below.refl _ _).alloc (Nat.le_refl _) _), fun e => by have := hv _ e; omega⟩
  obtain ⟨aa, q, rfl⟩ : ∃ aa q, v = .slice aa n q := by
    rcases ownsRow_forms hrow with ⟨rfl, h0⟩ | ⟨b, q, rfl⟩
    · exact ⟨none, 0, by rw [HN.out, h0]⟩
    · exact ⟨some ⟨b, 0, none⟩, q, by rw [HN.out]⟩
  clear hv hrow
  go_wp2_with fail
  rw [← hg]
  refine wp_named fun X hX => ?_
  rw [← hX] at HG hb2
  have hXs : w.heap.size ≤ X.heap.size := hb2.size
  clear hX hg hb1 hs1
  go_loopw [6] (fun u wr => ∃ (k : Nat) (M : List El), k ≤ m ∧ u = .int .i64 ((k : Nat) - 1 : Int) ∧ M.length = n ∧ heapF keyE k M = R ∧ HeapAt wr w.heap.size g (.slice aa n q) M ∧ Below w.heap.size w wr) (fun u _ => (intOf u + 1).toNat)
  case atStart => exact ⟨m, L, Nat.le_refl _, rfl, HN.out.symm, by rw [← HR.out, HM.out, HN.out], HG, hb2⟩
  case round =>
    obtain ⟨k, M, hk, rfl, hM, hF, hA, hbr⟩ := hrel
    have HML : Hid (M.length = n) := hM
    have HF : Hid (heapF keyE k M = R) := hF
    clear hM hF
    cases k with
    | zero =>
      rw [show (((0 : Nat) : Int) - 1) = -1 from rfl]
      go_wp2_with fail
      go_ret
      refine ⟨g, .slice aa n q, rfl, ?_, hbr⟩
      have := HF.out
      unfold heapF at this
      rw [← this]
      exact hA
    | succ k =>
      rw [show (((k + 1 : Nat) : Int) - 1) = (k : Int) by omega]
      have hkn : k < n := by have := HM.out; omega
      obtain ⟨b, rfl⟩ : ∃ b, aa = some ⟨b, 0, none⟩ := by
        rcases ownsRow_forms hA.row with ⟨h1, h0⟩ | ⟨b, q', h1⟩
        · have := HML.out; omega
        · cases h1; exact ⟨b, rfl⟩
      have hgb : g ≠ b := fun e => hA.ne (by rw [e]; rfl)
      have c1 : wr.cell? ⟨g, 1, none⟩ = some (.slice (some ⟨b, 0, none⟩) n q) := by rw [cell_of_row wr g 1 _ _ _ hA.at_]; rfl
      have d1 : decide ((0 : Int) ≤ (k : Int)) = true := decide_eq_true (by omega)
      have HS := sink_any g b q w.heap.size _ M k wr hA.at_ (by rw [HML.out]; exact hA.row) hgb (by rw [HML.out]; exact hlen) (by rw [HML.out]; omega)
      rw [HML.out] at HS
      obtain ⟨M2, hM2⟩ : ∃ M2, M2 = sinkF keyE n M k := ⟨_, rfl⟩
      rw [← hM2] at HS
      have HM2 : Hid (M2 = sinkF keyE n M k) := hM2
      clear hM2
      have hlow := World.ownsRow.lt hA.row b rfl
      have hlow2 := hA.low
      go_wp2_with fail
      refine HS.mono ?_
      rintro e w2 ⟨rfl, hrw, hgr⟩
      have hA2 : HeapAt w2 w.heap.size g (.slice (some ⟨b, 0, none⟩) n q) M2 := ⟨hlow2, hA.at_.grown hgr hgb, hrw, hA.ne⟩
      have hb3 : Below w.heap.size w w2 := hbr.grown hgr hbr.size (fun k hk => by cases hk; exact hlow.1)
      clear HS hA c1 hrw hgr hbr hlow
      go_wp2_with fail
      refine ⟨⟨k, M2, by omega, rfl, by rw [HM2.out, sinkF_length]; exact HML.out, ?_, hA2, hb3⟩, by simp only [intOf]; omega⟩
      have := HF.out
      unfold heapF at this
      rw [HML.out, ← HM2.out] at this
      exact this
end Go.Proofs.YtjbdhakogbolkaaDoor.HQ
end
section
/- chain's methods that read: their contracts. -/
namespace Go.Proofs.YtjbdhakogbolkaaDoor.CH
open Go.RowKit Go.Joins Go.Sort
set_option linter.unusedVariables false
set_option linter.unusedSimpArgs false
set_option maxRecDepth 100000
/-- What the links say: of the knot and of each number that stands there its neighbours, of one that was cut out that it was. -/
structure Lk (inn : Nat → Bool) (n : Nat) (p q : Nat → Int) : Prop where
  nx : ∀ i, i ≤ n → (i = n ∨ inn i = true) → q i = nxF inn n i
  pv : ∀ i, i ≤ n → (i = n ∨ inn i = true) → p i = dnG inn n i
  out : ∀ i, i < n → inn i = false → p i = -1
/-- The links' block. -/
def LkAt (w : World) (b n : Nat) (p q : Nat → Int) : Prop :=
  ∃ arr : Array Value, w.heap[b]? = some (.cells arr 151 (0, 0)) ∧ ∀ i, i ≤ n → arr[i * 2]? = some (.int .i64 (p i)) ∧ arr[i * 2 + 1]? = some (.int .i64 (q i))
/-- The chain's own block. -/
def ChAt (w : World) (g b n : Nat) (cnt : Int) : Prop := w.heap[g]? = some (.cells #[.slice (some ⟨b, 0, none⟩) (n + 1) (n + 1), .int .i64 cnt] 149 (0, 0))
/-- A chain in memory. -/
structure Ch (w : World) (g b n : Nat) (inn : Nat → Bool) (cnt : Int) : Prop where
  own : ChAt w g b n cnt
  le : n ≤ 1048576
  links : ∃ p q, LkAt w b n p q ∧ Lk inn n p q
theorem Ch.ne {w : World} {g b n : Nat} {inn : Nat → Bool} {cnt : Int} (h : Ch w g b n inn cnt) : g ≠ b := by
  obtain ⟨p, q, ⟨arr, h1, _⟩, _⟩ := h.links
  have h2 := h.own
  unfold ChAt at h2
  intro e
  subst e
  rw [h1] at h2
  injection h2 with h2
  injection h2 with _ h3 _
  exact absurd h3 (by decide)
theorem LkAt.at' {w : World} {b n : Nat} {p q : Nat → Int} (h : LkAt w b n p q) {i : Nat} (hi : i ≤ n) : w.cell? ⟨b, i * 2, none⟩ = some (.int .i64 (p i)) ∧ w.cell? ⟨b, i * 2 + 1, none⟩ = some (.int .i64 (q i)) := by
  obtain ⟨arr, h1, h2⟩ := h
  exact ⟨(cell_of_block h1 (i := i * 2)).trans (h2 i hi).1, (cell_of_block h1 (i := i * 2 + 1)).trans (h2 i hi).2⟩
theorem LkAt.free {w : World} {b n : Nat} {p q : Nat → Int} (h : LkAt w b n p q) (j : Nat) : w.frozen? ⟨b, j, none⟩ = false := by
  obtain ⟨arr, h1, h2⟩ := h
  exact unfrozen_of_block h1 j
theorem LkAt.below {w w' : World} {b n : Nat} {p q : Nat → Int} (h : LkAt w b n p q) (hb : Below w.heap.size w w') : LkAt w' b n p q := by
  obtain ⟨arr, h1, h2⟩ := h
  exact ⟨arr, (hb.block b (Array.getElem?_eq_some_iff.1 h1).1).trans h1, h2⟩
theorem ChAt.below {w w' : World} {g b n : Nat} {cnt : Int} (h : ChAt w g b n cnt) (hb : Below w.heap.size w w') : ChAt w' g b n cnt :=
  (hb.block g (Array.getElem?_eq_some_iff.1 h).1).trans h
theorem Ch.below {w w' : World} {g b n : Nat} {inn : Nat → Bool} {cnt : Int} (h : Ch w g b n inn cnt) (hb : Below w.heap.size w w') : Ch w' g b n inn cnt := by
  obtain ⟨p, q, h1, h2⟩ := h.links
  exact ⟨h.own.below hb, h.le, p, q, h1.below hb, h2⟩
/-- Two blocks lie as they lay. -/
def Kp2 (g b : Nat) (A B : World) : Prop := B.heap[g]? = A.heap[g]? ∧ B.heap[b]? = A.heap[b]?
theorem Ch.kept {w w' : World} {g b n : Nat} {inn : Nat → Bool} {cnt : Int} (h : Ch w g b n inn cnt) (hg : w'.heap[g]? = w.heap[g]?) (hb : w'.heap[b]? = w.heap[b]?) : Ch w' g b n inn cnt := by
  obtain ⟨p, q, ⟨arr, h1, h2⟩, h3⟩ := h.links
  exact ⟨hg.trans h.own, h.le, p, q, ⟨arr, hb.trans h1, h2⟩, h3⟩
theorem knot_any (g b n : Nat) (cnt : Int) (W : World) (h : ChAt W g b n cnt) (hn : n ≤ 1048576) :
    Calls Tryd.prog 88 #[.pointer (some ⟨g, 0, none⟩)] W fun e w' => e = .returned (.int .i64 (n : Nat)) ∧ w' = W := by
  unfold ChAt at h
  have c0 := cell_of_block h (i := 0)
  clear h
  go_enter Tryd.func88, Tryd.ntmps88
  go_wp2_with fail
  go_ret
  exact ⟨by simp, rfl⟩
theorem len_any (g b n : Nat) (cnt : Int) (W : World) (h : ChAt W g b n cnt) :
    Calls Tryd.prog 70 #[.pointer (some ⟨g, 0, none⟩)] W fun e w' => e = .returned (.int .i64 cnt) ∧ w' = W := by
  unfold ChAt at h
  have c0 := cell_of_block h (i := 1)
  clear h
  go_enter Tryd.func70, Tryd.ntmps70
  go_wp2_with fail
  go_ret
  exact ⟨rfl, rfl⟩
/-- What Next and Prev answer of a place: the knot is none. -/
def numF (n : Nat) (i : Int) : Int := if i = n then -1 else i
theorem number_any (g b n : Nat) (cnt i : Int) (W : World) (h : ChAt W g b n cnt) (hn : n ≤ 1048576) :
    Calls Tryd.prog 90 #[.pointer (some ⟨g, 0, none⟩), .int .i64 i] W fun e w' => e = .returned (.int .i64 (numF n i)) ∧ w' = W := by
  have HK := knot_any g b n cnt W h hn
  clear h
  unfold numF
  by_cases e : i = n
  · rw [if_pos e]
    have d : (i == (n : Int)) = true := by simpa using e
    have HE : Hid (i = n) := e
    clear e
    go_enter Tryd.func90, Tryd.ntmps90
    go_wp2_with fail
    refine HK.mono ?_
    rintro e w1 ⟨rfl, he⟩
    obtain rfl := he.symm
    go_wp2_with fail
    go_ret
    exact ⟨rfl, rfl⟩
  · rw [if_neg e]
    have d : (i == (n : Int)) = false := by simpa using e
    clear e
    go_enter Tryd.func90, Tryd.ntmps90
    go_wp2_with fail
    refine HK.mono ?_
    rintro e w1 ⟨rfl, he⟩
    obtain rfl := he.symm
    go_wp2_with fail
    go_ret
    exact ⟨rfl, rfl⟩
/-- Does i stand there? -/
def hasB (inn : Nat → Bool) (n : Nat) (i : Int) : Bool := decide (0 ≤ i) && decide (i < n) && inn i.toNat
theorem dn_ne (inn : Nat → Bool) (n i : Nat) : ((dnG inn n i : Nat) : Int) ≠ -1 := by omega
set_option maxHeartbeats 1000000 in
theorem has_any (g b n : Nat) (inn : Nat → Bool) (cnt i : Int) (W : World) (h : Ch W g b n inn cnt) :
    Calls Tryd.prog 89 #[.pointer (some ⟨g, 0, none⟩), .int .i64 i] W fun e w' => e = .returned (.bool (hasB inn n i)) ∧ w' = W := by
  have HK := knot_any g b n cnt W h.own h.le
  unfold hasB
  by_cases e0 : 0 ≤ i
  · have d0 : decide (0 ≤ i) = true := decide_eq_true e0
    rw [d0]
    by_cases e1 : i < n
    · have d1 : decide (i < (n : Int)) = true := decide_eq_true e1
      rw [d1]
      obtain ⟨k, rfl⟩ : ∃ k : Nat, i = k := ⟨i.toNat, by omega⟩
      have d2 : decide (k < n) = true := decide_eq_true (by omega)
      have d3 : k < n := by omega
      obtain ⟨p, q, hL, hK⟩ := h.links
      have c0 := (hL.at' (i := k) (by omega)).1
      have ho := h.own
      unfold ChAt at ho
      have c1 := cell_of_block ho (i := 0)
      have i0 : 0 ≤ (k : Int) ∧ (k : Int) < (n : Int) + 1 := by omega
      obtain ⟨t, ht⟩ : ∃ t, t = inn k := ⟨_, rfl⟩
      rw [show inn (k : Int).toNat = t by rw [ht]; rfl]
      have hp : (p k != -1) = t := by
        cases hti : inn k with
        | true =>
          rw [hK.pv k (by omega) (.inr hti), ht, hti]
          simp
        | false => rw [hK.out k (by omega) hti, ht, hti]; rfl
      obtain ⟨v, hv⟩ : ∃ v, v = p k := ⟨_, rfl⟩
      rw [← hv] at hp c0
      clear hv ht h hL hK ho e0 e1
      go_enter Tryd.func89, Tryd.ntmps89
      go_wp2_with fail
      refine HK.mono ?_
      rintro e w1 ⟨rfl, he⟩
      obtain rfl := he.symm
      go_wp2_with fail
      go_ret
      exact ⟨by simp, rfl⟩
    · have d1 : decide (i < (n : Int)) = false := decide_eq_false e1
      rw [d1]
      clear e1 e0 h
      go_enter Tryd.func89, Tryd.ntmps89
      go_wp2_with fail
      refine HK.mono ?_
      rintro e w1 ⟨rfl, he⟩
      obtain rfl := he.symm
      go_wp2_with fail
      go_ret
      exact ⟨by simp, rfl⟩
  · have d0 : decide (0 ≤ i) = false := decide_eq_false e0
    rw [d0]
    clear e0 h HK
    go_enter Tryd.func89, Tryd.ntmps89
    go_wp2_with fail
    go_ret
    exact ⟨by simp, rfl⟩
/-- What Next answers. -/
def nextA (inn : Nat → Bool) (n : Nat) (i : Int) : Int := if hasB inn n i then numF n (nxF inn n i.toNat) else -1
def prevA (inn : Nat → Bool) (n : Nat) (i : Int) : Int := if hasB inn n i then numF n (dnG inn n i.toNat) else -1
theorem hasB_true {inn : Nat → Bool} {n : Nat} {i : Int} (h : hasB inn n i = true) : ∃ k : Nat, i = k ∧ k < n ∧ inn k = true := by
  simp only [hasB, Bool.and_eq_true, decide_eq_true_eq] at h
  exact ⟨i.toNat, by omega, by omega, h.2⟩
set_option maxHeartbeats 1000000 in
theorem next_any (g b n : Nat) (inn : Nat → Bool) (cnt i : Int) (W : World) (h : Ch W g b n inn cnt) :
    Calls Tryd.prog 72 #[.pointer (some ⟨g, 0, none⟩), .int .i64 i] W fun e w' => e = .returned (.int .i64 (nextA inn n i)) ∧ w' = W := by
  have HH := has_any g b n inn cnt i W h
  unfold nextA
  obtain ⟨t, ht⟩ : ∃ t, t = hasB inn n i := ⟨_, rfl⟩
  rw [← ht] at HH ⊢
  cases t with
  | false =>
    simp only [Bool.false_eq_true, if_false]
    clear ht h
    go_enter Tryd.func72, Tryd.ntmps72
    go_wp2_with fail
    refine HH.mono ?_
    rintro e w1 ⟨rfl, he⟩
    obtain rfl := he.symm
    go_wp2_with fail
    go_ret
    exact ⟨rfl, rfl⟩
  | true =>
    obtain ⟨k, rfl, hk, hin⟩ := hasB_true ht.symm
    simp only [if_true, Int.toNat_natCast]
    obtain ⟨p, q, hL, hK⟩ := h.links
    have c0 := (hL.at' (i := k) (by omega)).2
    rw [hK.nx k (by omega) (.inr hin)] at c0
    have ho := h.own
    unfold ChAt at ho
    have c1 := cell_of_block ho (i := 0)
    have i0 : 0 ≤ (k : Int) ∧ (k : Int) < (n : Int) + 1 := by omega
    have HN := number_any g b n cnt (nxF inn n k : Nat) W h.own h.le
    obtain ⟨v, hv⟩ : ∃ v, v = nxF inn n k := ⟨_, rfl⟩
    rw [← hv] at HN c0 ⊢
    clear hv ht h hL hK ho hk hin
    go_enter Tryd.func72, Tryd.ntmps72
    go_wp2_with fail
    refine HH.mono ?_
    rintro e w1 ⟨rfl, he⟩
    obtain rfl := he.symm
    go_wp2_with fail
    refine HN.mono ?_
    rintro e w1 ⟨rfl, he⟩
    obtain rfl := he.symm
    go_wp2_with fail
    go_ret
    exact ⟨rfl, rfl⟩
set_option maxHeartbeats 1000000 in
theorem prev_any (g b n : Nat) (inn : Nat → Bool) (cnt i : Int) (W : World) (h : Ch W g b n inn cnt) :
    Calls Tryd.prog 78 #[.pointer (some ⟨g, 0, none⟩), .int .i64 i] W fun e w' => e = .returned (.int .i64 (prevA inn n i)) ∧ w' = W := by
  have HH := has_any g b n inn cnt i W h
  unfold prevA
  obtain ⟨t, ht⟩ : ∃ t, t = hasB inn n i := ⟨_, rfl⟩
  rw [← ht] at HH ⊢
  cases t with
  | false =>
    simp only [Bool.false_eq_true, if_false]
    clear ht h
    go_enter Tryd.func78, Tryd.ntmps78
    go_wp2_with fail
    refine HH.mono ?_
    rintro e w1 ⟨rfl, he⟩
    obtain rfl := he.symm
    go_wp2_with fail
    go_ret
    exact ⟨rfl, rfl⟩
  | true =>
    obtain ⟨k, rfl, hk, hin⟩ := hasB_true ht.symm
    simp only [if_true, Int.toNat_natCast]
    obtain ⟨p, q, hL, hK⟩ := h.links
    have c0 := (hL.at' (i := k) (by omega)).1
    rw [hK.pv k (by omega) (.inr hin)] at c0
    have ho := h.own
    unfold ChAt at ho
    have c1 := cell_of_block ho (i := 0)
    have i0 : 0 ≤ (k : Int) ∧ (k : Int) < (n : Int) + 1 := by omega
    have HN := number_any g b n cnt (dnG inn n k : Nat) W h.own h.le
    obtain ⟨v, hv⟩ : ∃ v, v = dnG inn n k := ⟨_, rfl⟩
    rw [← hv] at HN c0 ⊢
    clear hv ht h hL hK ho hk hin
    go_enter Tryd.func78, Tryd.ntmps78
    go_wp2_with fail
    refine HH.mono ?_
    rintro e w1 ⟨rfl, he⟩
    obtain rfl := he.symm
    go_wp2_with fail
    refine HN.mono ?_
    rintro e w1 ⟨rfl, he⟩
    obtain rfl := he.symm
    go_wp2_with fail
    go_ret
    exact ⟨rfl, rfl⟩
end Go.Proofs.YtjbdhakogbolkaaDoor.CH
end
