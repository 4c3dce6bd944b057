/- Rows of runs in memory: appending one. -/
import Derived.Test.YtddeamecgbdajaaDoorCRiter
import Derived.Test.YtddeamecgbdajaaDoorItTurn
namespace Go.Proofs.YtddeamecgbdajaaDoor
open Go.RowKit
open Go.Joins
/-- A run's cells, and those of a row. -/
def cellR (x : Rn) : List Value := [.int .i64 (x.kd : Nat), .int .i64 (x.frm : Nat), .int .i64 (x.too : Nat), .int .i64 (x.n : Nat)]
def cellsR (l : List Rn) : List Value := l.flatMap cellR
theorem cellsR_length (l : List Rn) : (cellsR l).length = l.length * 4 := by
  induction l with
  | nil => rfl
  | cons x l ih => simp only [cellsR, List.flatMap_cons, List.length_append, List.length_cons] at ih ⊢; rw [ih]; simp [cellR]; omega
theorem cellsR_snoc (l : List Rn) (x : Rn) : cellsR (l ++ [x]) = cellsR l ++ cellR x := by simp [cellsR]
theorem cellR_one (x : Rn) : ∀ v ∈ cellR x, v.oneCell' = true := by
  intro v hv
  simp [cellR] at hv
  rcases hv with rfl | rfl | rfl | rfl <;> rfl
theorem cellR_cells (w : World) (b : Nat) (x : Rn) (T : TypeId) (fr : Nat × Nat) (h : w.heap[b]? = some (.cells (cellR x).toArray T fr)) : ∀ j u, (cellR x)[j]? = some u → w.cell? ((⟨b, 0, none⟩ : Addr).add j) = some u := by
  intro j u hu
  rw [cell_add, Nat.zero_add, cell_of_block h]
  simpa using hu
theorem cellsR_get (l : List Rn) (i : Nat) (x : Rn) (h : l[i]? = some x) (j : Nat) (hj : j < 4) : (cellsR l)[i * 4 + j]? = (cellR x)[j]? := by
  induction l generalizing i with
  | nil => simp at h
  | cons y l ih =>
    have hy : (cellR y).length = 4 := rfl
    show (cellR y ++ cellsR l)[i * 4 + j]? = _
    cases i with
    | zero =>
      have : y = x := by simpa using h
      subst this
      rw [List.getElem?_append_left (by omega), Nat.zero_mul, Nat.zero_add]
    | succ i =>
      rw [List.getElem?_append_right (by omega), hy, show (i + 1) * 4 + j - 4 = i * 4 + j by omega]
      exact ih i (by simpa using h)
/-- A row's run at place i lies there. -/
def RnAt (W : World) (g : Nat) (i : Nat) (x : Rn) : Prop :=
  W.cell? ⟨g, i * 4, none⟩ = some (.int .i64 (x.kd : Nat)) ∧ W.cell? ⟨g, i * 4 + 1, none⟩ = some (.int .i64 (x.frm : Nat)) ∧ W.cell? ⟨g, i * 4 + 2, none⟩ = some (.int .i64 (x.too : Nat)) ∧ W.cell? ⟨g, i * 4 + 3, none⟩ = some (.int .i64 (x.n : Nat))
theorem row_at {T : TypeId} {w : World} {base g cap n : Nat} {l : List Rn} (h : w.ownsRow base T 4 (.slice (some ⟨g, 0, none⟩) n cap) n (cellsR l)) (hn : n = l.length) {i : Nat} {x : Rn} (hx : l[i]? = some x) : RnAt w g i x := by
  have hi : i < l.length := (List.getElem?_eq_some_iff.1 hx).1
  have hc : ∀ j, j < 4 → w.cell? ⟨g, i * 4 + j, none⟩ = (cellR x)[j]? := fun j hj => by
    rw [World.ownsRow.cellAt h (i * 4 + j) (by omega)]
    exact cellsR_get l i x hx j hj
  exact ⟨hc 0 (by omega), hc 1 (by omega), hc 2 (by omega), hc 3 (by omega)⟩
/-- The value v owns the runs l: rows of type T (slices S). -/
def OwnR (T : TypeId) (w : World) (base : Nat) (v : Value) (l : List Rn) : Prop := w.ownsRow base T 4 v l.length (cellsR l) ∧ (v = .slice none 0 0 ↔ l = [])
theorem OwnR.nil (T : TypeId) (w : World) (base : Nat) : OwnR T w base (.slice none 0 0) [] := ⟨World.ownsRow_nil w base T 4, by simp⟩
theorem OwnR.below {T : TypeId} {w w' : World} {base : Nat} {v : Value} {l : List Rn} {B : Nat} (h : OwnR T w base v l) (hb : Below B w w') (hB : w.heap.size ≤ B) : OwnR T w' base v l := by
  refine ⟨⟨h.1.1, ?_⟩, h.2⟩
  rcases h.1.2 with h0 | ⟨g, cap, cur, hv, hg, hh, r⟩
  · exact .inl h0
  · refine .inr ⟨g, cap, cur, hv, hg, ?_, r⟩
    rw [hb.block g (Nat.lt_of_lt_of_le (Array.getElem?_eq_some_iff.1 hh).1 hB)]
    exact hh
theorem run_own_rn (S T : TypeId) (i0 : TypeInfo) (z : Value) (hS : Tryd.prog.underlying S = some (.slice T)) (hi : Tryd.prog.info? T = some i0) (hz0 : i0.zero = some z) (hz1 : i0.size = 4) (hz2 : i0.bytes = 32) (hzc : z.cells.size = 4)
    (W : World) (base : Nat) (v : Value) (l : List Rn) (x : Rn) (b cap : Nat) (hown : OwnR T W base v l) (hx : W.heap[b]? = some (.cells (cellR x).toArray T (0, 0))) (hb : base ≤ W.heap.size) (hsz : (l.length + 1) * 32 ≤ 140737488355328) :
    ∃ v' w', (Builtin.append_ #[S, S] S #[v, .slice (some ⟨b, 0, none⟩) 1 cap]).run Tryd.prog W = .ok v' w' ∧ OwnR T w' base v' (l ++ [x]) ∧ RowTurn T base W w' := by
  have hc := cellR_cells W b x T (0, 0) hx
  have hl4 : (cellR x).length = 1 * 4 := rfl
  have hend : ∀ (v' : Value) (w' : World), w'.ownsRow base T 4 v' (l.length + 1) (cellsR l ++ cellR x) → OwnR T w' base v' (l ++ [x]) := by
    intro v' w' h
    refine ⟨by rw [List.length_append, cellsR_snoc]; exact h, ?_⟩
    obtain ⟨g, cap, rfl⟩ := ownsRow_form h (by omega)
    simp
  rcases hown.1.2 with ⟨rfl, h0⟩ | ⟨g, cp, cur, rfl, hg, hh, hn, hm, hcs, ht⟩
  · obtain ⟨v', w', h1, h2, h3, _⟩ := run_append_own (P := Tryd.prog) W base S S T i0 z 4 32 hS hi hz0 hz1 hz2 hzc (by decide) (.slice none 0 0) l.length (cellsR l) hown.1 ⟨b, 0, none⟩ 1 cap (cellR x) hl4 hc (cellR_one x) (by unfold maxLen; omega) hsz hb
    exact ⟨v', w', h1, hend v' w' h2, .inl h3⟩
  · by_cases hroom : l.length < cp
    · obtain ⟨v', w', h1, h2, h3, _⟩ := run_append_own (P := Tryd.prog) W base S S T i0 z 4 32 hS hi hz0 hz1 hz2 hzc (by decide) (.slice (some ⟨g, 0, none⟩) l.length cp) l.length (cellsR l) hown.1 ⟨b, 0, none⟩ 1 cap (cellR x) hl4 hc (cellR_one x) (by unfold maxLen; omega) hsz hb
      refine ⟨v', w', h1, hend v' w' h2, .inr ⟨g, cur, hh, ?_, hg, h3⟩⟩
      have hl0 : l ≠ [] := fun e => by have := hown.2.2 e; cases this
      have := List.length_pos_iff.2 hl0
      omega
    · obtain ⟨v', w', h1, h2, h3⟩ := run_append_arg_grows (P := Tryd.prog) W S S T i0 z 4 32 hS hi hz0 hz1 hz2 hzc (by decide) ⟨g, 0, none⟩ l.length cp (cellsR l) (cellsR_length l) (fun j u hu => by
        have hj : j < l.length * 4 := by
          rw [← cellsR_length]
          exact (List.getElem?_eq_some_iff.1 hu).1
        rw [cell_add, Nat.zero_add, World.ownsRow.cellAt hown.1 j hj, hu]) ⟨b, 0, none⟩ 1 cap (cellR x) hl4 hc (by omega) (by unfold maxLen; omega) hsz
      exact ⟨v', w', h1, hend v' w' (ownsRow_le h2 hb), .inl h3⟩
theorem notRow1 (v : Value) (t : TypeId) (ht : t ≠ 39) : ¬ RowO (.cells #[v] t) := fun h => by
  obtain ⟨c, fr, h, _⟩ := h
  injection h with _ h _
  exact ht h
/-- What an append of one run to a row in a box leaves. -/
theorem rn_appended {X : Nat → Obj → Prop} {W w1 : World} {n₀ B S : Nat} {o : Obj} {v : Value} (v' : Value) (hv : Boxed W B S v) (hS : S ≠ 39) (hXB : ∀ u, X B u) (hXr : ∀ k u, n₀ ≤ k → RowO u → X k u) (ht : RowTurn 39 n₀ (W.alloc o) w1) :
    Boxed w1 B S v ∧ Boxed (w1.setCell ⟨B, 0, none⟩ v') B S v' ∧ KeepsOthers W (w1.setCell ⟨B, 0, none⟩ v') ∧ KpX X W (w1.setCell ⟨B, 0, none⟩ v') := by
  have hv1 : Boxed w1 B S v := ht.keeps (hv.alloc o) (fun c e => by injection e with _ e _; exact absurd e hS)
  refine ⟨hv1, hv1.set v', ((KeepsOthers.alloc W o).trans ht.others).trans (KeepsOthers.setCell _ _ _), KpX.trans ⟨?_, ?_⟩ (KpX.setCell w1 B 0 v' hXB)⟩
  · rcases ht with h | ⟨_, _, _, _, _, h⟩
    · have := h.size; simp at this; omega
    · have := h.size; simp at this; omega
  · intro k u hx hk hu
    have h1 : (W.alloc o).heap[k]? = some u := (Below.heap_alloc W o k (Array.getElem?_eq_some_iff.1 hk).1).trans hk
    rcases ht with h | ⟨g, c, hg, hc, hb, h⟩
    · exact (h.block k (Array.getElem?_eq_some_iff.1 h1).1 (by simp)).trans h1
    · refine (h.block k (Array.getElem?_eq_some_iff.1 h1).1 (fun e => ?_)).trans h1
      obtain rfl : k = g := by simpa using e
      rw [hg] at h1
      cases h1
      exact hx (hXr k _ hb ⟨c, _, rfl, hc⟩)
/-- The activation in which the body of a round over runs begins: the run handed out at p, its box at q. -/
def actN (a : Act) (p q : Nat) (x : Rn) (Bx : Nat) : Act := { tmps := (a.tmps.setIfInBounds p (rnv x)).setIfInBounds q (.pointer (some ⟨Bx, 0, none⟩)), defers := [] }
theorem range_runs {F : Fence} {n : Nat} {P : Program} {g : Operand} {assign body : Code} {Q : Exit → Act → World → Prop} {a : Act} {w : World} {p : Tmp} (q : Nat)
    (hro : F.round = none) (h1 : 1 ≤ n) {gf : Nat} {lb : Array Value} (hg : a.eval g = .func (.func gf) #[] lb) (hFg : F.fn gf) (eg : ∀ args w, (callFunc gf args).run P w = .ok (.enter gf args) w)
    {Kp : World → World → Prop} {S Sp : List Rn → Prop} {N : Nat} {w0 : World} (hseq : SeqStopsC F (n - 1) P gf lb (fun x : Rn => #[rnv x]) Kp S Sp N 2 w0)
    (hKt : ∀ {A B C : World}, Kp A B → Kp B C → Kp A C) (hKb : ∀ (W : World) (o o' : Obj), W.heap[w.heap.size + 1]? = some o → o.isCells = false → o.isWalk = false → Kp W (W.putObj (w.heap.size + 1) o')) (hb0 : Below w0.heap.size w0 w)
    (I : List Rn → World → Prop) (Ix : Code → List Rn → World → Prop) (hI : OwnC w.heap.size 2 I) (hIx : ∀ c, OwnC w.heap.size 2 (Ix c)) (h0 : I [] w)
    (hassign : ∀ (pre : List Rn) (x : Rn) (W : World) (K : Act → World → Prop), I pre W → w.heap.size + 4 ≤ W.heap.size → (∀ a' W', KeepsFrom w.heap.size W W' → Kp W W' → I pre W' → (∃ Bx, w.heap.size + 4 ≤ Bx ∧ W'.heap[Bx]? = some (.cells (cellR x).toArray 39 (0, 0)) ∧ a' = actN a p q x Bx) → K a' W') →
      assign.wpIn (F.inRound (w.heap.size + 1)) (n - 1 - 1) P (Exit.then K (fun _ _ _ => False)) { tmps := ((#[p] : Array Tmp).zip #[rnv x]).foldl (fun t (p, v) => t.setIfInBounds p v) a.tmps, defers := [] } W)
    (hbody : ∀ (pre : List Rn) (x : Rn) (Bx : Nat) (W : World), (∃ r, W.heap[w.heap.size + 1]? = some (.loop r)) → w.heap.size + 4 ≤ Bx → I pre W → W.heap[Bx]? = some (.cells (cellR x).toArray 39 (0, 0)) → pre.length < N → body.wpIn (F.inRound (w.heap.size + 1)) (n - 1 - 1) P (ownPostG w.heap.size Kp I Ix (pre ++ [x]) W) (actN a p q x Bx) W)
    (hdone : ∀ (D : Nat) (xs : List Rn) (W : World), w.heap.size ≤ D → S xs → I xs W → W.heap[D]? = some (.deferred (some [])) → Q .normal { a with defers := { target := .collected D, args := #[] } :: a.defers } W)
    (hstop : ∀ (D : Nat) (c : Code) (pre : List Rn) (W : World), w.heap.size ≤ D → Sp pre → Ix c pre W → W.heap[D]? = some (.deferred (some [])) → c.wpIn F n P Q { a with defers := { target := .collected D, args := #[] } :: a.defers } W) :
    (Code.rangeFunc g #[p] assign body).wpIn F n P Q a w :=
  wpIn_rangeFunc_C hro h1 hg hFg eg hseq hKt hKb hb0 (fun _ => rfl) I Ix hI hIx h0
    (fun x a' W => ∃ Bx, w.heap.size + 4 ≤ Bx ∧ W.heap[Bx]? = some (.cells (cellR x).toArray 39 (0, 0)) ∧ a' = actN a p q x Bx)
    (fun x a' _ X Y row hs hg hr => by
      obtain ⟨Bx, h1, h2, h3⟩ := hs
      exact ⟨Bx, h1, (hg.block Bx (Array.getElem?_eq_some_iff.1 h2).1 (fun e => by obtain ⟨_, o, ho, hc⟩ := hr Bx e.symm; rw [h2] at ho; cases ho; cases hc)).trans h2, h3⟩)
    hassign (fun pre x a' W hl hsz hi hax hlt => by obtain ⟨Bx, h1, h2, rfl⟩ := hax; exact hbody pre x Bx W hl h1 hi h2 hlt) hdone hstop
end Go.Proofs.YtddeamecgbdajaaDoor
