/- tesserabook.Roomy, Same, Intact, slices.Clone of pairs: their contracts. -/
import Derived.Test.YtmfbeelnhihlaaaHPPush
import Derived.Laws.CopyOwn
import Derived.Laws.MakeOwn
import Derived.Laws.OwnMore
import Derived.Deep.DeepMust
import Derived.Laws.StructEq
namespace Go.Proofs.Ytmfbeelnhihlaaa.HP
open Go.RowKit Go.Sort Go.Joins
set_option linter.unusedVariables false
/-- Its value. -/
def spv (x : El) : Value := .agg #[.int .i64 x.1, .int .i64 x.2]
/-- A span's two cells. -/
def SpAt (w : World) (b off : Nat) (x : El) : Prop := w.cell? ⟨b, off, none⟩ = some (.int .i64 x.1) ∧ w.cell? ⟨b, off + 1, none⟩ = some (.int .i64 x.2)
theorem SpAt.below {w w' : World} {b off : Nat} {x : El} (h : SpAt w b off x) (hb : Below w.heap.size w w') : SpAt w' b off x :=
  ⟨(hb.cell (World.block_lt_of_cell? w _ h.1)).trans h.1, (hb.cell (World.block_lt_of_cell? w _ h.2)).trans h.2⟩
/-- The slice that begins at a holds the spans l. -/
def SPS (w : World) (a : Option Addr) (l : List El) : Prop :=
  l = [] ∨ ∃ b off, a = some ⟨b, off, none⟩ ∧ ∀ i x, l[i]? = some x → SpAt w b (off + i * 2) x
theorem SPS.below {w w' : World} {a : Option Addr} {l : List El} (h : SPS w a l) (hb : Below w.heap.size w w') : SPS w' a l := by
  rcases h with h | ⟨b, off, rfl, hc⟩
  · exact .inl h
  · exact .inr ⟨b, off, rfl, fun i x hx => (hc i x hx).below hb⟩
theorem SPS.take {w : World} {a : Option Addr} {l : List El} (h : SPS w a l) (n : Nat) : SPS w a (l.take n) := by
  rcases h with rfl | ⟨b, off, rfl, hc⟩
  · exact .inl (by simp)
  · refine .inr ⟨b, off, rfl, fun i x hx => hc i x ?_⟩
    rw [List.getElem?_take] at hx
    split at hx
    · exact hx
    · cases hx
def fLo : Field := Field.mk "A" 3 0 false "" "" 0
def fHi : Field := Field.mk "B" 3 1 false "" "" 8
theorem fields26 : Try.prog.fieldsOf 34 = #[fLo, fHi] := by kernel_rfl
theorem und26 : Try.prog.underlying 34 = some (.struct #[fLo, fHi]) := by kernel_rfl
theorem held26 : Try.prog.stoodInHeld 34 = false := by kernel_rfl
def spEq (x y : El) : Bool := x.1 == y.1 && x.2 == y.2
theorem equal_sp (a b c d : Int) (W : World) : (Op.equalIn 10000 34 (.agg #[.int .i64 a, .int .i64 b]) (.agg #[.int .i64 c, .int .i64 d])).run Try.prog W = .ok (a == c && b == d) W := by
  rw [run_equalIn_agg W 9999 34 _ _ (by rw [fields26]; exact und26) held26, fields26]
  simp [go_sem, Op.eqFields, fLo, fHi, part]
  by_cases h1 : a = c
  · by_cases h2 : b = d
    · simp [h1, h2]
    · simp [h1, h2]
  · simp [h1]
theorem eql_sp (x y : El) (v : Bool) (h : spEq x y = v) (W : World) : (binOp BinOp.eql 34 (.agg #[.int .i64 x.1, .int .i64 x.2]) (.agg #[.int .i64 y.1, .int .i64 y.2])).run Try.prog W = .ok (.bool v) W := by
  rw [run_eql_struct, equal_sp, ← h]
  rfl
theorem neq_sp (x y : El) (v : Bool) (h : (!spEq x y) = v) (W : World) : (binOp BinOp.neq 34 (.agg #[.int .i64 x.1, .int .i64 x.2]) (.agg #[.int .i64 y.1, .int .i64 y.2])).run Try.prog W = .ok (.bool v) W := by
  rw [run_neq_struct, equal_sp, ← h]
  rfl
theorem eqIn_sp (x y : El) (v : Bool) (h : spEq x y = v) (W : World) : (Op.equalIn 10000 34 (.agg #[.int .i64 x.1, .int .i64 x.2]) (.agg #[.int .i64 y.1, .int .i64 y.2])).run Try.prog W = .ok v W := by
  rw [equal_sp, ← h]
  rfl
theorem spEq_self (x : El) : spEq x x = true := by simp [spEq]
/-- A list's cells. -/
def cellsS (l : List El) : List Value := l.flatMap fun x => [.int .i64 x.1, .int .i64 x.2]
theorem cellsS_length (l : List El) : (cellsS l).length = l.length * 2 := by
  induction l with
  | nil => rfl
  | cons x l ih => simp only [cellsS, List.flatMap_cons, List.length_append, List.length_cons] at ih ⊢; rw [ih]; simp; omega
theorem cellsS_get (l : List El) (i : Nat) (x : El) (h : l[i]? = some x) : (cellsS l)[i * 2]? = some (.int .i64 x.1) ∧ (cellsS l)[i * 2 + 1]? = some (.int .i64 x.2) := by
  induction l generalizing i with
  | nil => simp at h
  | cons y l ih =>
    cases i with
    | zero =>
      have : y = x := by simpa using h
      subst this
      exact ⟨rfl, rfl⟩
    | succ i =>
      have := ih i (by simpa using h)
      have e : cellsS (y :: l) = .int .i64 y.1 :: .int .i64 y.2 :: cellsS l := rfl
      rw [e, show (i + 1) * 2 = i * 2 + 1 + 1 by omega, show i * 2 + 1 + 1 + 1 = i * 2 + 1 + 1 + 1 from rfl]
      simpa using this
theorem SPS.of_block {w : World} {g : Nat} {l r : List El} {t : TypeId} {fr : Nat × Nat} (h : w.heap[g]? = some (.cells (cellsS (l ++ r)).toArray t fr)) : SPS w (some ⟨g, 0, none⟩) l := by
  refine .inr ⟨g, 0, rfl, fun i x hx => ?_⟩
  have hx' : (l ++ r)[i]? = some x := by
    rw [List.getElem?_append_left (List.getElem?_eq_some_iff.1 hx).1]; exact hx
  obtain ⟨h0, h1⟩ := cellsS_get _ _ _ hx'
  refine ⟨?_, ?_⟩ <;> rw [cell_of_block h, Nat.zero_add] <;> simpa
theorem SPS.new (w : World) (l : List El) (t : TypeId) : SPS (w.alloc (.cells (cellsS l).toArray t)) (some ⟨w.heap.size, 0, none⟩) l :=
  SPS.of_block (r := []) (by rw [List.append_nil]; exact heap_alloc_new _ _)
/-- Copying whole elements of k cells each into a row. -/
theorem run_copy_rowN {P : Program} (w : World) (dT sT ty elem : TypeId) (k g o dLen dCap : Nat) (a : Addr) (sLen sCap : Nat) (cur : Array Value) (t : TypeId) (cs : List Value)
    (hu : P.underlying dT = some (.slice elem)) (hs : (P.info? elem).map (·.size) = some k)
    (hg : w.heap[g]? = some (.cells cur t (0, 0))) (hn : cs.length = Nat.min sLen dLen * k)
    (hsrc : ∀ j v, cs[j]? = some v → w.cell? (a.add j) = some v) (hfit : o + cs.length ≤ cur.size) (h1 : ∀ v ∈ cs, v.oneCell' = true) :
    (Builtin.copy_ #[dT, sT] ty #[.slice (some ⟨g, o, none⟩) dLen dCap, .slice (some a) sLen sCap]).run P w =
      .ok (goInt (Nat.min sLen dLen)) (w.setRow g (cur.toList.take o ++ cs ++ cur.toList.drop (o + cs.length)).toArray) := by
  have hl := run_loadCells_list (P := P) w a cs hsrc
  have hst := run_storeCells_at P g o t cs 0 cur w hg (by simpa using hfit) h1
  rw [hn] at hl
  cases hq : P.info? elem with
  | none => simp [hq] at hs
  | some i =>
    have hi : i.size = k := by simpa [hq] using hs
    simp [Builtin.copy_, run_underlying hu, Builtin.lenOf, Builtin.firstCells, sizeOf, typeInfo, hq, hi, hl, hst]
/-- A block of spans' cells. -/
def OwnP (w : World) (g : Nat) (L : List Value) : Prop := w.heap[g]? = some (.cells L.toArray 34 (0, 0))
theorem OwnP.below {w w' : World} {g : Nat} {L : List Value} {B : Nat} (h : OwnP w g L) (hb : Below B w w') (hg : g < B) : OwnP w' g L := by
  unfold OwnP; rw [hb.block g hg]; exact h
theorem OwnP.lt {w : World} {g : Nat} {L : List Value} (h : OwnP w g L) : g < w.heap.size := (Array.getElem?_eq_some_iff.1 h).1
theorem OwnP.cell {w : World} {g : Nat} {L : List Value} (h : OwnP w g L) (j : Nat) : w.cell? ⟨g, j, none⟩ = L[j]? := by
  rw [cell_of_block h]; simp
theorem OwnP.free {w : World} {g : Nat} {L : List Value} (h : OwnP w g L) (j : Nat) : w.frozen? ⟨g, j, none⟩ = false := unfrozen_of_block h j
theorem OwnP.set {w : World} {g : Nat} {L : List Value} (h : OwnP w g L) (j : Nat) (v : Value) : OwnP (w.setCell ⟨g, j, none⟩ v) g (L.set j v) := by
  have := block_setCell h (i := j) v
  unfold OwnP; rw [this]; simp
theorem cellsS_append (l r : List El) : cellsS (l ++ r) = cellsS l ++ cellsS r := by simp [cellsS]
theorem cellsS_one (l : List El) : ∀ v ∈ cellsS l, v.oneCell' = true := by
  intro v hv
  simp only [cellsS, List.mem_flatMap] at hv
  obtain ⟨c, _, h⟩ := hv
  simp at h
  rcases h with rfl | rfl <;> rfl
theorem cellsS_set (l : List El) (i : Nat) (x : El) : ((cellsS l).set (i * 2) (.int .i64 x.1)).set (i * 2 + 1) (.int .i64 x.2) = cellsS (l.set i x) := by
  induction l generalizing i with
  | nil => simp [cellsS]
  | cons y l ih =>
    have e : ∀ z, cellsS (z :: l) = .int .i64 z.1 :: .int .i64 z.2 :: cellsS l := fun z => rfl
    cases i with
    | zero => rfl
    | succ i =>
      have e2 : cellsS ((y :: l).set (i + 1) x) = .int .i64 y.1 :: .int .i64 y.2 :: cellsS (l.set i x) := rfl
      rw [e2, e, ← ih i, show (i + 1) * 2 = i * 2 + 1 + 1 by omega, show i * 2 + 1 + 1 + 1 = i * 2 + 1 + 1 + 1 from rfl]
      rfl
/-- The spans of l, k marks, noughts up to 80. -/
def fillS (l : List El) (m : El) (k : Nat) : List El := l ++ (List.replicate k m ++ List.replicate (80 - k) ⟨0, 0⟩)
theorem fillS_set (l : List El) (m : El) (k : Nat) (h : k < 80) : (fillS l m k).set (l.length + k) m = fillS l m (k + 1) := by
  unfold fillS
  rw [List.set_append_right _ _ (by omega), Nat.add_sub_cancel_left, List.set_append_right _ _ (by simp)]
  simp only [List.length_replicate, Nat.sub_self]
  rw [show 80 - k = (80 - (k + 1)) + 1 from by omega, List.replicate_succ, List.set_cons_zero, List.replicate_succ', List.append_assoc]
  rfl
theorem fillS_length (l : List El) (m : El) (k : Nat) (h : k ≤ 80) : (fillS l m k).length = l.length + 80 := by
  simp [fillS]; omega
theorem fillS_get (l : List El) (m : El) (n k : Nat) (h : k < n) : (fillS l m n)[l.length + k]? = some m := by
  unfold fillS
  rw [List.getElem?_append_right (by omega), Nat.add_sub_cancel_left, List.getElem?_append_left (by simpa using h)]
  simp [h]
theorem copy_cellsS (l : List El) : (cellsS (List.replicate (l.length + 80) ⟨0, 0⟩)).take 0 ++ cellsS l ++ (cellsS (List.replicate (l.length + 80) ⟨0, 0⟩)).drop (0 + (cellsS l).length) = cellsS (fillS l ⟨0, 0⟩ 0) := by
  have h : cellsS (List.replicate (l.length + 80) ⟨0, 0⟩) = cellsS (List.replicate l.length ⟨0, 0⟩) ++ cellsS (List.replicate 80 ⟨0, 0⟩) := by
    rw [← cellsS_append, List.replicate_append_replicate]
  rw [h, Nat.zero_add, List.drop_append_of_le_length (by rw [cellsS_length, cellsS_length]; simp), List.drop_of_length_le (by rw [cellsS_length, cellsS_length]; simp)]
  unfold fillS
  simp [cellsS_append]
theorem fillS_start (l : List El) (m : El) : fillS l ⟨0, 0⟩ 0 = fillS l m 0 := by simp [fillS]
theorem info26 : (Try.prog.info? 34).map (fun i => (i.zero, i.size, i.bytes)) = some (some (.agg #[.int .i64 0, .int .i64 0]), 2, 16) := by kernel_rfl
theorem size26 : (Try.prog.info? 34).map (·.size) = some 2 := by kernel_rfl
theorem madeS (n : Nat) : madeCells #[Value.int .i64 0, Value.int .i64 0] (n * 2) = (cellsS (List.replicate n ⟨0, 0⟩)).toArray := by
  have e : cellsS (List.replicate n ⟨0, 0⟩) = List.replicate (n * 2) (.int .i64 0) := by
    induction n with
    | zero => rfl
    | succ n ih =>
      rw [List.replicate_succ, show cellsS (⟨0, 0⟩ :: List.replicate n ⟨0, 0⟩) = .int .i64 0 :: .int .i64 0 :: cellsS (List.replicate n ⟨0, 0⟩) from rfl, ih, show (n + 1) * 2 = n * 2 + 1 + 1 by omega, List.replicate_succ, List.replicate_succ]
  rw [e]
  apply Array.ext
  · simp [madeCells]
  · intro i h1 h2
    simp only [madeCells, Array.getElem_map, List.getElem_toArray, List.getElem_replicate]
    have : (Array.range (n * 2))[i]'(by simpa [madeCells] using h1) % #[Value.int .i64 0, Value.int .i64 0].size < 2 := Nat.mod_lt _ (by decide)
    generalize (Array.range (n * 2))[i]'(by simpa [madeCells] using h1) % #[Value.int .i64 0, Value.int .i64 0].size = j at this
    match j, this with
    | 0, _ => rfl
    | 1, _ => rfl
theorem SPS.cells {w : World} {x : Addr} {l : List El} (h : SPS w (some x) l) : ∀ j u, (cellsS l)[j]? = some u → w.cell? (x.add j) = some u := by
  intro j u hu
  rcases h with rfl | ⟨b, off, hx, hc⟩
  · simp [cellsS] at hu
  · obtain rfl := Option.some.inj hx
    have hj : j < (cellsS l).length := (List.getElem?_eq_some_iff.1 hu).1
    rw [cellsS_length] at hj
    have hi : l[j / 2]? = some l[j / 2] := List.getElem?_eq_getElem (by omega)
    obtain ⟨g0, g1⟩ := cellsS_get _ _ _ hi
    obtain ⟨c0, c1⟩ := hc _ _ hi
    rw [Go.WideShapes.add_plain]
    rcases Nat.mod_two_eq_zero_or_one j with e | e
    · have ej : j = j / 2 * 2 := by omega
      rw [ej, g0] at hu
      rw [ej, c0]
      exact hu
    · have ej : j = j / 2 * 2 + 1 := by omega
      rw [ej, g1] at hu
      rw [ej, ← Nat.add_assoc, c1]
      exact hu
theorem copy_runS (W : World) (g : Nat) (a : Option Addr) (cap : Nat) (l : List El) (hO : OwnP W g (cellsS (List.replicate (l.length + 80) ⟨0, 0⟩))) (h : SPS W a l) :
    ∃ W1, (Builtin.copy_ #[30, 30] 3 #[.slice (some ⟨g, 0, none⟩) (l.length + 80) (l.length + 80), .slice a l.length cap]).run Try.prog W = .ok (.int .i64 (l.length : Int)) W1 ∧
      OwnP W1 g (cellsS (fillS l ⟨0, 0⟩ 0)) ∧ ∀ B w0, Below B w0 W → B ≤ g → Below B w0 W1 := by
  have nil : l = [] → ∃ W1, (Builtin.copy_ #[30, 30] 3 #[.slice (some ⟨g, 0, none⟩) (l.length + 80) (l.length + 80), .slice a l.length cap]).run Try.prog W = .ok (.int .i64 (l.length : Int)) W1 ∧
      OwnP W1 g (cellsS (fillS l ⟨0, 0⟩ 0)) ∧ ∀ B w0, Below B w0 W → B ≤ g → Below B w0 W1 := by
    rintro rfl
    refine ⟨W, ?_, by simpa [fillS] using hO, fun _ _ h _ => h⟩
    have hl : ∀ (x : Addr), (loadCells x 0).run Try.prog W = .ok #[] W := fun x => by simpa using run_loadCells_list (P := Try.prog) W x [] (by simp)
    cases hq : Try.prog.info? 34 with
    | none => have := size26; simp [hq] at this
    | some i =>
      cases a <;> simp [Builtin.copy_, run_underlying Try.underlying30, Builtin.lenOf, Builtin.firstCells, sizeOf, typeInfo, hq, storeCells, hl, goInt]
  rcases h with h | ⟨b, off, rfl, hc⟩
  · exact nil h
  · have hmin : Nat.min l.length (l.length + 80) = l.length := Nat.min_eq_left (by omega)
    have hr := run_copy_rowN (P := Try.prog) W 30 30 3 34 2 g 0 (l.length + 80) (l.length + 80) ⟨b, off, none⟩ l.length cap _ 34 (cellsS l) Try.underlying30 size26 hO (by rw [hmin, cellsS_length])
      (SPS.cells (.inr ⟨b, off, rfl, hc⟩)) (by rw [List.size_toArray, cellsS_length, cellsS_length]; simp; omega) (cellsS_one l)
    rw [hmin] at hr
    refine ⟨_, hr, ?_, fun B w0 hb hg => below_setRow hb hg _⟩
    have := setRow_heap W g (cellsS (List.replicate (l.length + 80) ⟨0, 0⟩)).toArray ((cellsS (List.replicate (l.length + 80) ⟨0, 0⟩)).take 0 ++ cellsS l ++ (cellsS (List.replicate (l.length + 80) ⟨0, 0⟩)).drop (0 + (cellsS l).length)).toArray 34 (0, 0) hO
    rw [copy_cellsS] at this
    unfold OwnP
    rw [← this]
    rw [copy_cellsS]
theorem SpAt.other {w : World} {b off g : Nat} {x : El} (h : SpAt w b off x) (i j : Nat) (u : Value) {v : Value} (hg : b ≠ g) : SpAt ((w.setCell ⟨g, i, none⟩ u).setCell ⟨g, j, none⟩ v) b off x := by
  have e : ∀ o, ((w.setCell ⟨g, i, none⟩ u).setCell ⟨g, j, none⟩ v).cell? ⟨b, o, none⟩ = w.cell? ⟨b, o, none⟩ := fun o => by
    rw [World.cell?_setCell_other _ _ _ _ (fun e => hg (by injection e with e; exact e.symm)), World.cell?_setCell_other _ _ _ _ (fun e => hg (by injection e with e; exact e.symm))]
  exact ⟨(e _).trans h.1, (e _).trans h.2⟩
set_option maxHeartbeats 800000 in
theorem roomy_any (a : Option Addr) (cap : Nat) (l : List El) (m : El) (w : World) (hlen : l.length ≤ 1099511627776) (h : SPS w a l) :
    Calls Try.prog 13 #[.slice a l.length cap, spv m] w fun e w' => ∃ g, w.heap.size ≤ g ∧
      e = .returned (.slice (some ⟨g, 0, none⟩) (l.length + 80) (l.length + 80)) ∧ Below w.heap.size w w' ∧ OwnP w' g (cellsS (fillS l m 80)) := by
  obtain ⟨i0, hi, hz0, hz1, hz2⟩ := info_parts info26
  have hmk : ∀ u : World, (Instr.makeSlice 30 (.int .i64 ((l.length : Int) + 80)) (.int .i64 ((l.length : Int) + 80))).run Try.prog u =
      .ok (.slice (some ⟨u.heap.size, 0, none⟩) (l.length + 80) (l.length + 80)) (u.alloc (.cells (cellsS (List.replicate (l.length + 80) ⟨0, 0⟩)).toArray 34)) := fun u => by
    have h := run_make (P := Try.prog) u 30 34 i0 _ Try.underlying30 hi hz0 .i64 .i64 ((l.length : Int) + 80) ((l.length : Int) + 80) (by omega) (Int.le_refl _) (by rw [hz2]; omega) (by omega)
    have e : ((l.length : Int) + 80).toNat = l.length + 80 := by omega
    rw [e, hz1] at h
    rw [← madeS]
    simpa [Value.cells] using h
  have b0 := (Below.refl w.heap.size w).alloc (Nat.le_refl _) (.cells #[.int .i64 m.1, .int .i64 m.2] 34)
  have b1 := b0.alloc (by simp) (.cells (cellsS (List.replicate (l.length + 80) ⟨0, 0⟩)).toArray 34)
  have p1 : SpAt ((w.alloc (.cells #[.int .i64 m.1, .int .i64 m.2] 34)).alloc (.cells (cellsS (List.replicate (l.length + 80) ⟨0, 0⟩)).toArray 34)) w.heap.size 0 m :=
    SpAt.below (w := w.alloc (.cells #[.int .i64 m.1, .int .i64 m.2] 34)) ⟨by simp [go_sem], by simp [go_sem]⟩ ((Below.refl _ _).alloc (Nat.le_refl _) _)
  have hO : OwnP ((w.alloc (.cells #[.int .i64 m.1, .int .i64 m.2] 34)).alloc (.cells (cellsS (List.replicate (l.length + 80) ⟨0, 0⟩)).toArray 34)) (w.heap.size + 1) (cellsS (List.replicate (l.length + 80) ⟨0, 0⟩)) := by
    have := heap_alloc_new (w.alloc (.cells #[.int .i64 m.1, .int .i64 m.2] 34)) (.cells (cellsS (List.replicate (l.length + 80) ⟨0, 0⟩)).toArray 34)
    rw [World.size_alloc] at this
    exact this
  obtain ⟨w1, hcp, ho1, hb1⟩ := copy_runS _ (w.heap.size + 1) a cap l hO (h.below b1)
  have hB1 := hb1 _ _ b1 (by omega)
  have hP1 := hb1 _ _ (Below.refl (w.heap.size + 1) _) (Nat.le_refl _)
  have p2 : SpAt w1 w.heap.size 0 m := by
    have e : ∀ o, w1.cell? ⟨w.heap.size, o, none⟩ = ((w.alloc (.cells #[.int .i64 m.1, .int .i64 m.2] 34)).alloc (.cells (cellsS (List.replicate (l.length + 80) ⟨0, 0⟩)).toArray 34)).cell? ⟨w.heap.size, o, none⟩ := fun o =>
      hP1.cell (p := ⟨w.heap.size, o, none⟩) (by simp)
    exact ⟨(e 0).trans p1.1, (e (0 + 1)).trans p1.2⟩
  rw [fillS_start l m] at ho1
  clear hO h b0 b1 p1 hb1 hP1
  unfold spv
  go_enter Try.func13, Try.ntmps13
  go_wp2
  go_loopw [6] (fun v wr => ∃ i : Nat, l.length ≤ i ∧ i ≤ l.length + 80 ∧ v = .int .i64 (i : Nat) ∧ OwnP wr (w.heap.size + 1) (cellsS (fillS l m (i - l.length))) ∧ SpAt wr w.heap.size 0 m ∧ Below w.heap.size w wr) (fun v _ => 80 + l.length - (intOf v).toNat)
  case atStart => exact ⟨l.length, Nat.le_refl _, by omega, rfl, by rw [Nat.sub_self]; exact ho1, p2, hB1⟩
  case round =>
    clear ho1 p2 hB1 hcp hmk
    obtain ⟨i, hi1, hi2, rfl, hown, ⟨m0, m1⟩, hbr⟩ := hrel
    have HO : Hid (OwnP wr (w.heap.size + 1) (cellsS (fillS l m (i - l.length)))) := hown
    by_cases hlt : i < l.length + 80
    · obtain ⟨y, hx⟩ : ∃ y, (fillS l m (i - l.length))[i]? = some y := ⟨_, List.getElem?_eq_getElem (by rw [fillS_length _ _ _ (by omega)]; omega)⟩
      have c0 := (hown.cell (i * 2)).trans (cellsS_get _ _ _ hx).1
      have c1 := (hown.cell (i * 2 + 1)).trans (cellsS_get _ _ _ hx).2
      have f0 := hown.free (i * 2)
      have f1 := hown.free (i * 2 + 1)
      have hd : decide ((i : Int) < (l.length : Int) + 80) = true := decide_eq_true (by omega)
      rw [Nat.zero_add] at m1
      have M0 : Hid (SpAt wr w.heap.size 0 m) := ⟨m0, by rw [Nat.zero_add]; exact m1⟩
      clear hx hown
      go_wp2_with fail
      refine ⟨⟨i + 1, by omega, by omega, by go_num, ?_, M0.out.other _ _ _ (by omega), (hbr.setCell (p := ⟨w.heap.size + 1, i * 2, none⟩) (show w.heap.size ≤ w.heap.size + 1 by omega) _).setCell (p := ⟨w.heap.size + 1, i * 2 + 1, none⟩) (show w.heap.size ≤ w.heap.size + 1 by omega) _⟩, by simp only [intOf]; omega⟩
      have h1 := (HO.out.set (i * 2) (.int .i64 m.1)).set (i * 2 + 1) (.int .i64 m.2)
      have h2 := fillS_set l m (i - l.length) (by omega)
      rw [show l.length + (i - l.length) = i by omega] at h2
      rw [cellsS_set, h2] at h1
      rw [show i + 1 - l.length = i - l.length + 1 by omega]
      exact h1
    · have hi80 : i = l.length + 80 := by omega
      subst hi80
      clear hown m0 m1
      go_wp2_with fail
      go_ret
      exact ⟨_, by omega, rfl, hbr, by have := HO.out; rwa [Nat.add_sub_cancel_left] at this⟩
set_option maxHeartbeats 800000 in
/-- Of two slices that hold the same spans, Same says so. -/
theorem same_any (a b : Option Addr) (ca cb : Nat) (l : List El) (w : World) (hlen : l.length ≤ 9223372036854775807) (ha : SPS w a l) (hb : SPS w b l) :
    Calls Try.prog 29 #[.slice a l.length ca, .slice b l.length cb] w fun e w' => e = .returned (.bool true) ∧ Below w.heap.size w w' := by
  obtain ⟨n, hn⟩ : ∃ n, n = l.length := ⟨_, rfl⟩
  have HN : Hid (n = l.length) := hn
  rw [← hn] at hlen ⊢
  clear hn
  have hne : ((n : Int) != (n : Int)) = false := by simp
  go_enter Try.func29, Try.ntmps29
  go_wp2
  go_loopw [5] (fun i wr => ∃ k : Nat, k ≤ n ∧ i = .int .i64 k ∧ Below w.heap.size w wr) (fun i _ => n - (intOf i).toNat)
  case atStart => exact ⟨0, Nat.zero_le _, rfl, Below.refl _ _⟩
  case round =>
    obtain ⟨k, hk, rfl, hbr⟩ := hrel
    by_cases hlt : k < n
    · have hkl : k < l.length := by rw [← HN.out]; exact hlt
      have hnil : l ≠ [] := fun e => by rw [e] at hkl; simp at hkl
      rcases ha with h | ⟨ga, oa, rfl, ha⟩
      · exact absurd h hnil
      rcases hb with h | ⟨gb, ob, rfl, hb⟩
      · exact absurd h hnil
      obtain ⟨x, hx⟩ : ∃ x, l[k]? = some x := ⟨l[k], List.getElem?_eq_getElem hkl⟩
      obtain ⟨a0, a1⟩ := (ha k x hx).below hbr
      obtain ⟨b0, b1⟩ := (hb k x hx).below hbr
      have HE := eqIn_sp x x true (spEq_self x)
      have HF := neq_sp x x false (by rw [spEq_self]; rfl)
      clear ha hb hnil hkl hx
      go_wp2_with fail
      go_quiet (fail)
      go_wp2_with fail
      exact ⟨⟨k + 1, by omega, by go_num, below_drewN hbr nq⟩, by simp only [intOf]; omega⟩
    · have hkn : k = n := by omega
      subst hkn
      go_wp2_with fail
      go_ret
      exact ⟨rfl, hbr⟩
set_option maxHeartbeats 800000 in
/-- Of what Roomy made, and stayed, Intact is true. -/
theorem intact_any (g : Nat) (a : Option Addr) (cap : Nat) (l : List El) (m : El) (w : World) (hlen : l.length ≤ 1099511627776) (hf : OwnP w g (cellsS (fillS l m 80))) (h : SPS w a l) :
    Calls Try.prog 20 #[.slice (some ⟨g, 0, none⟩) (l.length + 80) (l.length + 80), .slice a l.length cap, spv m] w fun e w' => e = .returned (.bool true) ∧ Below w.heap.size w w' := by
  have b0 := (Below.refl w.heap.size w).alloc (Nat.le_refl _) (.cells #[.int .i64 m.1, .int .i64 m.2] 34)
  have p0 : SpAt (w.alloc (.cells #[.int .i64 m.1, .int .i64 m.2] 34)) w.heap.size 0 m := ⟨by simp [go_sem], by simp [go_sem]⟩
  have hf0 := hf.below b0 hf.lt
  have hs : SPS w (some ⟨g, 0, none⟩) l := SPS.of_block hf
  have hsame := same_any (some ⟨g, 0, none⟩) a (l.length + 80) cap l (w.alloc (.cells #[.int .i64 m.1, .int .i64 m.2] 34)) (by omega) (hs.below b0) (h.below b0)
  have hne : (((l.length : Int) + 80) != ((l.length : Int) + 80)) = false := by simp
  have HE := eqIn_sp m m true (spEq_self m)
  have HF := neq_sp m m false (by rw [spEq_self]; rfl)
  clear hf h hs
  unfold spv
  go_enter Try.func20, Try.ntmps20
  go_wp2_with fail
  refine hsame.mono ?_
  rintro e w1 ⟨rfl, hb1⟩
  have hf1 := hf0.below hb1 hf0.lt
  have p1 := p0.below hb1
  have B1 := b0.trans (hb1.mono b0.size)
  clear hsame hb1 hf0 p0 b0
  go_wp2_with fail
  go_loopw [7] (fun v wr => ∃ i : Nat, l.length ≤ i ∧ i ≤ l.length + 80 ∧ v = .int .i64 (i : Nat) ∧ Below w1.heap.size w1 wr) (fun v _ => 80 + l.length - (intOf v).toNat)
  case atStart => exact ⟨l.length, Nat.le_refl _, by omega, rfl, Below.refl _ _⟩
  case round =>
    obtain ⟨i, hi1, hi2, rfl, hbr⟩ := hrel
    by_cases hlt : i < l.length + 80
    · have hx := fillS_get l m 80 (i - l.length) (by omega)
      rw [show l.length + (i - l.length) = i by omega] at hx
      have c0 := (hf1.cell (i * 2)).trans (cellsS_get _ _ _ hx).1
      have c1 := (hf1.cell (i * 2 + 1)).trans (cellsS_get _ _ _ hx).2
      have c0 := (hbr.cell (World.block_lt_of_cell? w1 _ c0)).trans c0
      have c1 := (hbr.cell (World.block_lt_of_cell? w1 _ c1)).trans c1
      obtain ⟨m0, m1⟩ := p1.below hbr
      rw [Nat.zero_add] at m1
      have hd : decide ((i : Int) < (l.length : Int) + 80) = true := decide_eq_true (by omega)
      clear hx hf1
      go_wp2_with fail
      go_quiet (fail)
      go_wp2_with fail
      exact ⟨⟨i + 1, by omega, by omega, by go_num, below_drewN hbr nq⟩, by simp only [intOf]; omega⟩
    · have hi80 : i = l.length + 80 := by omega
      subst hi80
      go_wp2_with fail
      go_ret
      exact ⟨rfl, B1.trans (hbr.mono B1.size)⟩
theorem eq_nil_none (n c : Nat) (W : World) : (binOp BinOp.eql 30 (.slice none n c) (.slice none 0 0)).run Try.prog W = .ok (.bool true) W := by kernel_rfl
theorem eq_nil_some (x : Addr) (n c : Nat) (W : World) : (binOp BinOp.eql 30 (.slice (some x) n c) (.slice none 0 0)).run Try.prog W = .ok (.bool false) W := by kernel_rfl
end Go.Proofs.Ytmfbeelnhihlaaa.HP
