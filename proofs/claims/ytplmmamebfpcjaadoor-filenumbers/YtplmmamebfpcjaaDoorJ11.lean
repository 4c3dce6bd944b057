import Derived.Test.YtplmmamebfpcjaaDoorJ5
import Derived.Test.YtplmmamebfpcjaaDoorJ4
import Derived.Laws.StructEq
import Derived.Test.YtplmmamebfpcjaaDoorJ10
import Derived.Test.YtplmmamebfpcjaaDoorJ1
import Derived.Test.YtplmmamebfpcjaaDoorJ7
import Derived.Deep.RegionHeld3
import Derived.Deep.DrawnRows
section
/- tesserabook.Roomy, Same, Intact of words: their contracts. -/
namespace Go.Proofs.YtplmmamebfpcjaaDoor
open Go.RowKit Go.Sort Go.Joins
/-- A block of words' cells. -/
def OwnPw (w : World) (g : Nat) (L : List Value) : Prop := w.heap[g]? = some (.cells L.toArray 9 (0, 0))
theorem OwnPw.below {w w' : World} {g : Nat} {L : List Value} {B : Nat} (h : OwnPw w g L) (hb : Below B w w') (hg : g < B) : OwnPw w' g L := by
  unfold OwnPw; rw [hb.block g hg]; exact h
theorem OwnPw.lt {w : World} {g : Nat} {L : List Value} (h : OwnPw w g L) : g < w.heap.size := (Array.getElem?_eq_some_iff.1 h).1
theorem OwnPw.cell {w : World} {g : Nat} {L : List Value} (h : OwnPw w g L) (j : Nat) : w.cell? ⟨g, j, none⟩ = L[j]? := by
  rw [cell_of_block h]; simp
theorem OwnPw.free {w : World} {g : Nat} {L : List Value} (h : OwnPw w g L) (j : Nat) : w.frozen? ⟨g, j, none⟩ = false := unfrozen_of_block h j
theorem OwnPw.set {w : World} {g : Nat} {L : List Value} (h : OwnPw w g L) (j : Nat) (v : Value) : OwnPw (w.setCell ⟨g, j, none⟩ v) g (L.set j v) := by
  have := block_setCell h (i := j) v
  unfold OwnPw; rw [this]; simp
theorem WSP.of_block {w : World} {g : Nat} {l r : List ByteArray} {t : TypeId} {fr : Nat × Nat} (h : w.heap[g]? = some (.cells (cellsW (l ++ r)).toArray t fr)) : WSP w (some ⟨g, 0, none⟩) l := by
  refine .inr ⟨g, 0, rfl, fun i x hx => ?_⟩
  have hx' : (l ++ r)[i]? = some x := by
    rw [List.getElem?_append_left (List.getElem?_eq_some_iff.1 hx).1]; exact hx
  have h0 := cellsW_get hx'
  rw [cell_of_block h, Nat.zero_add]
  simpa using h0
theorem cellsW_append (l r : List ByteArray) : cellsW (l ++ r) = cellsW l ++ cellsW r := by simp [cellsW]
theorem cellsW_set (l : List ByteArray) (i : Nat) (x : ByteArray) : (cellsW l).set i (.string x) = cellsW (l.set i x) := by simp [cellsW, List.map_set]
def fillW (l : List ByteArray) (m : ByteArray) (k : Nat) : List ByteArray := l ++ (List.replicate k m ++ List.replicate (80 - k) ⟨#[]⟩)
theorem fillW_set (l : List ByteArray) (m : ByteArray) (k : Nat) (h : k < 80) : (fillW l m k).set (l.length + k) m = fillW l m (k + 1) := by
  unfold fillW
  rw [List.set_append_right _ _ (by omega), Nat.add_sub_cancel_left, List.set_append_right _ _ (by simp)]
  simp only [List.length_replicate, Nat.sub_self]
  rw [show 80 - k = (80 - (k + 1)) + 1 from by omega, List.replicate_succ, List.set_cons_zero, List.replicate_succ', List.append_assoc]
  rfl
theorem fillW_length (l : List ByteArray) (m : ByteArray) (k : Nat) (h : k ≤ 80) : (fillW l m k).length = l.length + 80 := by
  simp [fillW]; omega
theorem fillW_get (l : List ByteArray) (m : ByteArray) (n k : Nat) (h : k < n) : (fillW l m n)[l.length + k]? = some m := by
  unfold fillW
  rw [List.getElem?_append_right (by omega), Nat.add_sub_cancel_left, List.getElem?_append_left (by simpa using h)]
  simp [h]
theorem fillW_start (l : List ByteArray) (m : ByteArray) : fillW l ⟨#[]⟩ 0 = fillW l m 0 := by simp [fillW]
theorem copy_cellsW (l : List ByteArray) : (cellsW (List.replicate (l.length + 80) ⟨#[]⟩)).take 0 ++ cellsW l ++ (cellsW (List.replicate (l.length + 80) ⟨#[]⟩)).drop (0 + (cellsW l).length) = cellsW (fillW l ⟨#[]⟩ 0) := by
  have h : cellsW (List.replicate (l.length + 80) ⟨#[]⟩) = cellsW (List.replicate l.length ⟨#[]⟩) ++ cellsW (List.replicate 80 ⟨#[]⟩) := by
    rw [← cellsW_append, List.replicate_append_replicate]
  rw [h, Nat.zero_add, List.drop_append_of_le_length (by rw [cellsW_length, cellsW_length]; simp), List.drop_of_length_le (by rw [cellsW_length, cellsW_length]; simp)]
  unfold fillW
  simp [cellsW_append]
theorem sizeW : (Tryd.prog.info? 9).map (·.size) = some 1 := by kernel_rfl
theorem madeW (n : Nat) : madeCells #[Value.string ⟨#[]⟩] (n * 1) = (cellsW (List.replicate n ⟨#[]⟩)).toArray := by
  have e : cellsW (List.replicate n ⟨#[]⟩) = List.replicate (n * 1) (.string ⟨#[]⟩) := by simp [cellsW]
  rw [e]
  apply Array.ext
  · simp [madeCells]
  · intro i h1 h2
    simp only [madeCells, Array.getElem_map, List.getElem_toArray, List.getElem_replicate]
    have : (Array.range (n * 1))[i]'(by simpa [madeCells] using h1) % #[Value.string ⟨#[]⟩].size < 1 := Nat.mod_lt _ (by decide)
    generalize (Array.range (n * 1))[i]'(by simpa [madeCells] using h1) % #[Value.string ⟨#[]⟩].size = j at this
    match j, this with
    | 0, _ => rfl
theorem copy_runW (W : World) (g : Nat) (a : Option Addr) (cap : Nat) (l : List ByteArray) (hO : OwnPw W g (cellsW (List.replicate (l.length + 80) ⟨#[]⟩))) (h : WSP W a l) :
    ∃ W1, (Builtin.copy_ #[42, 42] 3 #[.slice (some ⟨g, 0, none⟩) (l.length + 80) (l.length + 80), .slice a l.length cap]).run Tryd.prog W = .ok (.int .i64 (l.length : Int)) W1 ∧
      OwnPw W1 g (cellsW (fillW l ⟨#[]⟩ 0)) ∧ ∀ B w0, Below B w0 W → B ≤ g → Below B w0 W1 := by
  have nil : l = [] → ∃ W1, (Builtin.copy_ #[42, 42] 3 #[.slice (some ⟨g, 0, none⟩) (l.length + 80) (l.length + 80), .slice a l.length cap]).run Tryd.prog W = .ok (.int .i64 (l.length : Int)) W1 ∧
      OwnPw W1 g (cellsW (fillW l ⟨#[]⟩ 0)) ∧ ∀ B w0, Below B w0 W → B ≤ g → Below B w0 W1 := by
    rintro rfl
    refine ⟨W, ?_, by simpa [fillW] using hO, fun _ _ h _ => h⟩
    have hl : ∀ (x : Addr), (loadCells x 0).run Tryd.prog W = .ok #[] W := fun x => by simpa using run_loadCells_list (P := Tryd.prog) W x [] (by simp)
    cases hq : Tryd.prog.info? 9 with
    | none => have := sizeW; simp [hq] at this
    | some i =>
      cases a <;> simp [Builtin.copy_, run_underlying Tryd.underlying42, Builtin.lenOf, Builtin.firstCells, sizeOf, typeInfo, hq, storeCells, hl, goInt]
  rcases h with h | ⟨b, off, rfl, hc⟩
  · exact nil h
  · have hmin : Nat.min l.length (l.length + 80) = l.length := Nat.min_eq_left (by omega)
    have hr := run_copy_rowN (P := Tryd.prog) W 42 42 3 9 1 g 0 (l.length + 80) (l.length + 80) ⟨b, off, none⟩ l.length cap _ 9 (cellsW l) Tryd.underlying42 sizeW hO (by rw [hmin, cellsW_length])
      (WSP.cells (.inr ⟨b, off, rfl, hc⟩)) (by rw [List.size_toArray, cellsW_length, cellsW_length]; simp) (cellsW_one l)
    rw [hmin] at hr
    refine ⟨_, hr, ?_, fun B w0 hb hg => below_setRow hb hg _⟩
    have := setRow_heap W g (cellsW (List.replicate (l.length + 80) ⟨#[]⟩)).toArray ((cellsW (List.replicate (l.length + 80) ⟨#[]⟩)).take 0 ++ cellsW l ++ (cellsW (List.replicate (l.length + 80) ⟨#[]⟩)).drop (0 + (cellsW l).length)).toArray 9 (0, 0) hO
    rw [copy_cellsW] at this
    unfold OwnPw
    rw [← this]
    rw [copy_cellsW]
end Go.Proofs.YtplmmamebfpcjaaDoor
end
section
/- tesserabook.Roomy, Same, Intact of merges: their contracts. -/
namespace Go.Proofs.YtplmmamebfpcjaaDoor
open Go.RowKit Go.Sort Go.Joins
theorem MgAt.new (w : World) (m : Mg) (t : TypeId) : MgAt (w.alloc (.cells #[.int .i64 m.l, .int .i64 m.r, .int .i64 m.i] t)) w.heap.size 0 m := ⟨by simp [go_sem], by simp [go_sem], by simp [go_sem]⟩
def gL : Field := Field.mk "Left" 3 0 false "" "" 0
def gR : Field := Field.mk "Right" 3 1 false "" "" 8
def gI : Field := Field.mk "Id" 3 2 false "" "" 16
theorem fieldsM : Tryd.prog.fieldsOf 50 = #[gL, gR, gI] := by kernel_rfl
theorem undM : Tryd.prog.underlying 50 = some (.struct #[gL, gR, gI]) := by kernel_rfl
theorem heldM : Tryd.prog.stoodInHeld 50 = false := by kernel_rfl
theorem guardM : Tryd.prog.eqGuardType Tryd.prog.depth 50 = false := by kernel_rfl
def mgEq (x y : Mg) : Bool := x.l == y.l && (x.r == y.r && x.i == y.i)
theorem mgEq_self (x : Mg) : mgEq x x = true := by simp [mgEq]
theorem equal_mg (a b c a' b' c' : Int) (W : World) : (Op.equalIn 10000 50 (.agg #[.int .i64 a, .int .i64 b, .int .i64 c]) (.agg #[.int .i64 a', .int .i64 b', .int .i64 c'])).run Tryd.prog W = .ok (a == a' && (b == b' && c == c')) W := by
  rw [run_equalIn_agg W 9999 50 _ _ (by rw [fieldsM]; exact undM) heldM, fieldsM]
  simp [go_sem, Op.eqFields, gL, gR, gI, part]
  by_cases h1 : a = a'
  · by_cases h2 : b = b'
    · by_cases h3 : c = c'
      · simp [h1, h2, h3]
      · simp [h1, h2, h3]
    · simp [h1, h2]
  · simp [h1]
theorem eql_mg (x y : Mg) (v : Bool) (h : mgEq x y = v) (W : World) : (binOp BinOp.eql 50 (.agg #[.int .i64 x.l, .int .i64 x.r, .int .i64 x.i]) (.agg #[.int .i64 y.l, .int .i64 y.r, .int .i64 y.i])).run Tryd.prog W = .ok (.bool v) W := by
  rw [run_eql_struct, equal_mg, ← h]
  rfl
theorem neq_mg (x y : Mg) (v : Bool) (h : (!mgEq x y) = v) (W : World) : (binOp BinOp.neq 50 (.agg #[.int .i64 x.l, .int .i64 x.r, .int .i64 x.i]) (.agg #[.int .i64 y.l, .int .i64 y.r, .int .i64 y.i])).run Tryd.prog W = .ok (.bool v) W := by
  rw [run_neq_struct, equal_mg, ← h]
  rfl
theorem eqIn_mg (x y : Mg) (v : Bool) (h : mgEq x y = v) (W : World) : (Op.equalIn 10000 50 (.agg #[.int .i64 x.l, .int .i64 x.r, .int .i64 x.i]) (.agg #[.int .i64 y.l, .int .i64 y.r, .int .i64 y.i])).run Tryd.prog W = .ok v W := by
  rw [equal_mg, ← h]
  rfl
/-- A block of merges' cells. -/
def OwnPm (w : World) (g : Nat) (L : List Value) : Prop := w.heap[g]? = some (.cells L.toArray 50 (0, 0))
theorem OwnPm.below {w w' : World} {g : Nat} {L : List Value} {B : Nat} (h : OwnPm w g L) (hb : Below B w w') (hg : g < B) : OwnPm w' g L := by
  unfold OwnPm; rw [hb.block g hg]; exact h
theorem OwnPm.lt {w : World} {g : Nat} {L : List Value} (h : OwnPm w g L) : g < w.heap.size := (Array.getElem?_eq_some_iff.1 h).1
theorem OwnPm.cell {w : World} {g : Nat} {L : List Value} (h : OwnPm w g L) (j : Nat) : w.cell? ⟨g, j, none⟩ = L[j]? := by
  rw [cell_of_block h]; simp
theorem OwnPm.free {w : World} {g : Nat} {L : List Value} (h : OwnPm w g L) (j : Nat) : w.frozen? ⟨g, j, none⟩ = false := unfrozen_of_block h j
theorem OwnPm.set {w : World} {g : Nat} {L : List Value} (h : OwnPm w g L) (j : Nat) (v : Value) : OwnPm (w.setCell ⟨g, j, none⟩ v) g (L.set j v) := by
  have := block_setCell h (i := j) v
  unfold OwnPm; rw [this]; simp
theorem MSP.of_block {w : World} {g : Nat} {l r : List Mg} {t : TypeId} {fr : Nat × Nat} (h : w.heap[g]? = some (.cells (cellsM (l ++ r)).toArray t fr)) : MSP w (some ⟨g, 0, none⟩) l := by
  refine .inr ⟨g, 0, rfl, fun i x hx => ?_⟩
  have hx' : (l ++ r)[i]? = some x := by
    rw [List.getElem?_append_left (List.getElem?_eq_some_iff.1 hx).1]; exact hx
  obtain ⟨h0, h1, h2⟩ := cellsM_get _ _ _ hx'
  unfold MgAt
  rw [cell_of_block h, cell_of_block h, cell_of_block h, Nat.zero_add]
  exact ⟨by simpa using h0, by simpa using h1, by simpa using h2⟩
theorem cellsM_append (l r : List Mg) : cellsM (l ++ r) = cellsM l ++ cellsM r := by simp [cellsM]
theorem cellsM_set (l : List Mg) (i : Nat) (x : Mg) : (((cellsM l).set (i * 3) (.int .i64 x.l)).set (i * 3 + 1) (.int .i64 x.r)).set (i * 3 + 2) (.int .i64 x.i) = cellsM (l.set i x) := by
  induction l generalizing i with
  | nil => simp [cellsM]
  | cons y l ih =>
    have e : ∀ z, cellsM (z :: l) = .int .i64 z.l :: .int .i64 z.r :: .int .i64 z.i :: cellsM l := fun z => rfl
    cases i with
    | zero => rfl
    | succ i =>
      have e2 : cellsM ((y :: l).set (i + 1) x) = .int .i64 y.l :: .int .i64 y.r :: .int .i64 y.i :: cellsM (l.set i x) := rfl
      rw [e2, e, ← ih i, show (i + 1) * 3 = i * 3 + 1 + 1 + 1 by omega]
      rfl
def fillM (l : List Mg) (m : Mg) (k : Nat) : List Mg := l ++ (List.replicate k m ++ List.replicate (80 - k) ⟨0, 0, 0⟩)
theorem fillM_set (l : List Mg) (m : Mg) (k : Nat) (h : k < 80) : (fillM l m k).set (l.length + k) m = fillM l m (k + 1) := by
  unfold fillM
  rw [List.set_append_right _ _ (by omega), Nat.add_sub_cancel_left, List.set_append_right _ _ (by simp)]
  simp only [List.length_replicate, Nat.sub_self]
  rw [show 80 - k = (80 - (k + 1)) + 1 from by omega, List.replicate_succ, List.set_cons_zero, List.replicate_succ', List.append_assoc]
  rfl
theorem fillM_length (l : List Mg) (m : Mg) (k : Nat) (h : k ≤ 80) : (fillM l m k).length = l.length + 80 := by
  simp [fillM]; omega
theorem fillM_get (l : List Mg) (m : Mg) (n k : Nat) (h : k < n) : (fillM l m n)[l.length + k]? = some m := by
  unfold fillM
  rw [List.getElem?_append_right (by omega), Nat.add_sub_cancel_left, List.getElem?_append_left (by simpa using h)]
  simp [h]
theorem fillM_start (l : List Mg) (m : Mg) : fillM l ⟨0, 0, 0⟩ 0 = fillM l m 0 := by simp [fillM]
theorem copy_cellsM (l : List Mg) : (cellsM (List.replicate (l.length + 80) ⟨0, 0, 0⟩)).take 0 ++ cellsM l ++ (cellsM (List.replicate (l.length + 80) ⟨0, 0, 0⟩)).drop (0 + (cellsM l).length) = cellsM (fillM l ⟨0, 0, 0⟩ 0) := by
  have h : cellsM (List.replicate (l.length + 80) ⟨0, 0, 0⟩) = cellsM (List.replicate l.length ⟨0, 0, 0⟩) ++ cellsM (List.replicate 80 ⟨0, 0, 0⟩) := by
    rw [← cellsM_append, List.replicate_append_replicate]
  rw [h, Nat.zero_add, List.drop_append_of_le_length (by rw [cellsM_length, cellsM_length]; simp), List.drop_of_length_le (by rw [cellsM_length, cellsM_length]; simp)]
  unfold fillM
  simp [cellsM_append]
theorem sizeM : (Tryd.prog.info? 50).map (·.size) = some 3 := by kernel_rfl
theorem madeMg (n : Nat) : madeCells #[Value.int .i64 0, Value.int .i64 0, Value.int .i64 0] (n * 3) = (cellsM (List.replicate n ⟨0, 0, 0⟩)).toArray := by
  have e : cellsM (List.replicate n ⟨0, 0, 0⟩) = List.replicate (n * 3) (.int .i64 0) := by
    induction n with
    | zero => rfl
    | succ n ih =>
      rw [List.replicate_succ, show cellsM (⟨0, 0, 0⟩ :: List.replicate n ⟨0, 0, 0⟩) = .int .i64 0 :: .int .i64 0 :: .int .i64 0 :: cellsM (List.replicate n ⟨0, 0, 0⟩) from rfl, ih, show (n + 1) * 3 = n * 3 + 1 + 1 + 1 by omega, List.replicate_succ, List.replicate_succ, List.replicate_succ]
  rw [e]
  apply Array.ext
  · simp [madeCells]
  · intro i h1 h2
    simp only [madeCells, Array.getElem_map, List.getElem_toArray, List.getElem_replicate]
    have : (Array.range (n * 3))[i]'(by simpa [madeCells] using h1) % #[Value.int .i64 0, Value.int .i64 0, Value.int .i64 0].size < 3 := Nat.mod_lt _ (by decide)
    generalize (Array.range (n * 3))[i]'(by simpa [madeCells] using h1) % #[Value.int .i64 0, Value.int .i64 0, Value.int .i64 0].size = j at this
    match j, this with
    | 0, _ => rfl
    | 1, _ => rfl
    | 2, _ => rfl
theorem copy_runM (W : World) (g : Nat) (a : Option Addr) (cap : Nat) (l : List Mg) (hO : OwnPm W g (cellsM (List.replicate (l.length + 80) ⟨0, 0, 0⟩))) (h : MSP W a l) :
    ∃ W1, (Builtin.copy_ #[43, 43] 3 #[.slice (some ⟨g, 0, none⟩) (l.length + 80) (l.length + 80), .slice a l.length cap]).run Tryd.prog W = .ok (.int .i64 (l.length : Int)) W1 ∧
      OwnPm W1 g (cellsM (fillM l ⟨0, 0, 0⟩ 0)) ∧ ∀ B w0, Below B w0 W → B ≤ g → Below B w0 W1 := by
  have nil : l = [] → ∃ W1, (Builtin.copy_ #[43, 43] 3 #[.slice (some ⟨g, 0, none⟩) (l.length + 80) (l.length + 80), .slice a l.length cap]).run Tryd.prog W = .ok (.int .i64 (l.length : Int)) W1 ∧
      OwnPm W1 g (cellsM (fillM l ⟨0, 0, 0⟩ 0)) ∧ ∀ B w0, Below B w0 W → B ≤ g → Below B w0 W1 := by
    rintro rfl
    refine ⟨W, ?_, by simpa [fillM] using hO, fun _ _ h _ => h⟩
    have hl : ∀ (x : Addr), (loadCells x 0).run Tryd.prog W = .ok #[] W := fun x => by simpa using run_loadCells_list (P := Tryd.prog) W x [] (by simp)
    cases hq : Tryd.prog.info? 50 with
    | none => have := sizeM; simp [hq] at this
    | some i =>
      cases a <;> simp [Builtin.copy_, run_underlying Tryd.underlying43, Builtin.lenOf, Builtin.firstCells, sizeOf, typeInfo, hq, storeCells, hl, goInt]
  rcases h with h | ⟨b, off, rfl, hc⟩
  · exact nil h
  · have hmin : Nat.min l.length (l.length + 80) = l.length := Nat.min_eq_left (by omega)
    have hr := run_copy_rowN (P := Tryd.prog) W 43 43 3 50 3 g 0 (l.length + 80) (l.length + 80) ⟨b, off, none⟩ l.length cap _ 50 (cellsM l) Tryd.underlying43 sizeM hO (by rw [hmin, cellsM_length])
      (MSP.cells (.inr ⟨b, off, rfl, hc⟩)) (by rw [List.size_toArray, cellsM_length, cellsM_length]; simp; omega) (cellsM_one l)
    rw [hmin] at hr
    refine ⟨_, hr, ?_, fun B w0 hb hg => below_setRow hb hg _⟩
    have := setRow_heap W g (cellsM (List.replicate (l.length + 80) ⟨0, 0, 0⟩)).toArray ((cellsM (List.replicate (l.length + 80) ⟨0, 0, 0⟩)).take 0 ++ cellsM l ++ (cellsM (List.replicate (l.length + 80) ⟨0, 0, 0⟩)).drop (0 + (cellsM l).length)).toArray 50 (0, 0) hO
    rw [copy_cellsM] at this
    unfold OwnPm
    rw [← this]
    rw [copy_cellsM]
theorem MgAt.other {w : World} {b off g : Nat} {x : Mg} (h : MgAt w b off x) (i j k : Nat) (u v y : Value) (hg : b ≠ g) : MgAt (((w.setCell ⟨g, i, none⟩ u).setCell ⟨g, j, none⟩ v).setCell ⟨g, k, none⟩ y) b off x := by
  have e : ∀ o, (((w.setCell ⟨g, i, none⟩ u).setCell ⟨g, j, none⟩ v).setCell ⟨g, k, none⟩ y).cell? ⟨b, o, none⟩ = w.cell? ⟨b, o, none⟩ := fun o => by
    rw [World.cell?_setCell_other _ _ _ _ (fun e => hg (by injection e with e; exact e.symm)), World.cell?_setCell_other _ _ _ _ (fun e => hg (by injection e with e; exact e.symm)), World.cell?_setCell_other _ _ _ _ (fun e => hg (by injection e with e; exact e.symm))]
  exact ⟨(e _).trans h.1, (e _).trans h.2.1, (e _).trans h.2.2⟩
end Go.Proofs.YtplmmamebfpcjaaDoor
end
section
/- tesseralaw5.known; Model.Data; tesserakeep.Same: their contracts. -/
namespace Go.Proofs.YtplmmamebfpcjaaDoor
open Go.RowKit Go.Sort Go.Joins
set_option linter.unusedVariables false
theorem hou_up : upB houW houM houA houB houC = true := by decide +kernel
theorem hou_wf : MWf houM := by
  intro i x hx
  have hi : i < 6 := (List.getElem?_eq_some_iff.1 hx).1
  unfold W64
  rcases (show i = 0 ∨ i = 1 ∨ i = 2 ∨ i = 3 ∨ i = 4 ∨ i = 5 by omega) with rfl | rfl | rfl | rfl | rfl | rfl <;>
    (simp [houM] at hx; subst hx; decide)
/-- Of a model that is right: sizes. -/
structure MOk (ws : List ByteArray) (ms : List Mg) (A B C : List Sp) : Prop where
  m4 : ms.length ≤ 4096
  nm : ws.length = ms.length
  la : A.length ≤ 512
  lb : B.length ≤ 512
  lc : C.length ≤ 512
  words : WRgt ws
  cuts : ∀ j, j < ms.length → badM ws ms j = 0
  cls : (checkA A B C).1 = 0
theorem checkD_ok {ws : List ByteArray} {ms : List Mg} {A B C : List Sp} (h : (checkD ws ms A B C).1 = 0) : MOk ws ms A B C := by
  unfold checkD at h
  by_cases h1 : 4096 < ms.length
  · rw [if_pos h1] at h; cases h
  · rw [if_neg h1] at h
    by_cases h2 : ws.length ≠ ms.length
    · rw [if_pos h2] at h; cases h
    · rw [if_neg h2] at h
      by_cases h3 : (checkA A B C).1 ≠ 0
      · rw [if_pos h3] at h; exact absurd h h3
      · rw [if_neg h3] at h
        have h3 : (checkA A B C).1 = 0 := by simpa using h3
        by_cases h4 : (firstBad (badW ws) ws.length).1 ≠ 0
        · rw [if_pos h4] at h; exact absurd h h4
        · rw [if_neg h4] at h
          by_cases h5 : (firstBad (badM ws ms) ms.length).1 ≠ 0
          · rw [if_pos h5] at h; exact absurd h h5
          · have hl := (check_pass h3).1.len (by omega)
            exact ⟨by omega, by simpa using h2, hl.1, hl.2.1, hl.2.2, firstBad_zero (by simpa using h4), firstBad_zero (by simpa using h5), h3⟩
theorem upB_ok {ws : List ByteArray} {ms : List Mg} {A B C : List Sp} (h : upB ws ms A B C = true) : MOk ws ms A B C := by
  unfold upB at h
  simp only [Bool.and_eq_true, decide_eq_true_eq] at h
  exact checkD_ok h.2
theorem upB_few {ws : List ByteArray} {ms : List Mg} {A B C : List Sp} (h : upB ws ms A B C = true) : ms.length ≤ 300 := by
  have h0 := upB_ok h
  unfold upB largeB at h
  simp only [Bool.and_eq_true, Bool.not_eq_true', Bool.and_eq_false_iff, decide_eq_false_iff_not] at h
  have := h0.m4
  omega
set_option maxRecDepth 100000 in
set_option maxHeartbeats 1000000 in
theorem data_any (g lo : Nat) (ws : List ByteArray) (ms : List Mg) (A B C : List Sp) (w : World) (hk : MOk ws ms A B C) (h : ModelAt w lo g ws ms A B C) :
    Calls Tryd.prog 10 #[.pointer (some ⟨g, 0, none⟩)] w fun e w' => ∃ a0 c0 a1 c1 a2 c2 a3 c3 a4 c4, e = .returned (.agg #[.slice a0 ws.length c0, .slice a1 ms.length c1, .slice a2 A.length c2, .slice a3 B.length c3, .slice a4 C.length c4]) ∧ OwnD w' w.heap.size a0 c0 a1 c1 a2 c2 a3 c3 a4 c4 ws ms A B C ∧ Below w.heap.size w w' := by
  obtain ⟨a0, c0, a1, c1, a2, c2, a3, c3, a4, c4, gt, gr, h1, h2, h3, h4, h5, h6⟩ := h
  have ba := box_below w (.cells #[.slice none 0 0, .slice none 0 0, .slice none 0 0, .slice none 0 0, .slice none 0 0] 45)
  have hN := Blk.new w (.cells #[.slice none 0 0, .slice none 0 0, .slice none 0 0, .slice none 0 0, .slice none 0 0] 45)
  have h3' := (ba.block g (Array.getElem?_eq_some_iff.1 h3).1).trans h3
  have h4' := h4.below ba
  obtain ⟨s3, s4, q1, q2, o2, u2, o3, u3, o4⟩ := h4'.spans
  have hc := copied_any a0 a1 a2 a3 a4 c0 c1 c2 c3 c4 ws ms A B C (w.alloc (.cells #[.slice none 0 0, .slice none 0 0, .slice none 0 0, .slice none 0 0, .slice none 0 0] 45)) (by have := hk.m4; have := hk.nm; omega) (by have := hk.m4; omega) (by have := hk.la; omega) (by have := hk.lb; omega) (by have := hk.lc; omega) (fun i x hx => (hk.words.size hx).2) h4'.words.row.sp h4'.merges.row.sp o2.row.sp o3.row.sp o4.row.sp
  have x0 := cell_of_block h3' 0
  have x1 := cell_of_block h3' 1
  have x2 := cell_of_block h3' 2
  have x3 := cell_of_block h3' 3
  have x4 := cell_of_block h3' 4
  have hsz : (w.alloc (.cells #[.slice none 0 0, .slice none 0 0, .slice none 0 0, .slice none 0 0, .slice none 0 0] 45)).heap.size = w.heap.size + 1 := by simp
  clear h1 h2 h3 h4 h5 h6 h3' h4' q1 q2 o2 u2 o3 u3 o4
  go_enter Tryd.func10, Tryd.ntmps10
  go_wp2_with fail
  refine hc.mono ?_
  rintro e w1 ⟨b0, k0, b1, k1, b2, k2, b3, k3, b4, k4, rfl, hO, hb1⟩
  have hN1 := hN.up hb1
  have f0 := fun j => hN1.free j
  have y0 := hN1.cell 0
  have y1 := hN1.cell 1
  have y2 := hN1.cell 2
  have y3 := hN1.cell 3
  have y4 := hN1.cell 4
  have B1 := ba.trans (hb1.mono ba.size)
  rw [hsz] at hO
  have HO : Hid (OwnD w1 (w.heap.size + 1) b0 k0 b1 k1 b2 k2 b3 k3 b4 k4 ws ms A B C) := hO
  have HN1 : Hid (w1.heap[w.heap.size]? = _) := hN1
  clear hc x0 x1 x2 x3 x4 hN ba hb1 hsz hO hN1
  go_wp2_with fail
  have hX : DBox w1 w.heap.size _ _ _ _ _ := HN1.out
  have hY := ((((hX.s0 (.slice b0 ws.length k0)).s1 (.slice b1 ms.length k1)).s2 (.slice b2 A.length k2)).s3 (.slice b3 B.length k3)).s4 (.slice b4 C.length k4)
  have hO2 := ((((HO.out.away (b := w.heap.size) (o := 0) (by omega) (.slice b0 ws.length k0)).away (b := w.heap.size) (o := 1) (by omega) (.slice b1 ms.length k1)).away (b := w.heap.size) (o := 2) (by omega) (.slice b2 A.length k2)).away (b := w.heap.size) (o := 3) (by omega) (.slice b3 B.length k3)).away (b := w.heap.size) (o := 4) (by omega) (.slice b4 C.length k4)
  have B2 := ((((B1.setCell (p := ⟨w.heap.size, 0, none⟩) (Nat.le_refl _) (.slice b0 ws.length k0)).setCell (p := ⟨w.heap.size, 1, none⟩) (Nat.le_refl _) (.slice b1 ms.length k1)).setCell (p := ⟨w.heap.size, 2, none⟩) (Nat.le_refl _) (.slice b2 A.length k2)).setCell (p := ⟨w.heap.size, 3, none⟩) (Nat.le_refl _) (.slice b3 B.length k3)).setCell (p := ⟨w.heap.size, 4, none⟩) (Nat.le_refl _) (.slice b4 C.length k4)
  have z0 := hY.c0
  have z1 := hY.c1
  have z2 := hY.c2
  have z3 := hY.c3
  have z4 := hY.c4
  exact bodyPost_ret (v := .agg #[.slice b0 ws.length k0, .slice b1 ms.length k1, .slice b2 A.length k2, .slice b3 B.length k3, .slice b4 C.length k4]) (by simp [results, Tryd.results10, go_sem, z0, z1, z2, z3, z4]) rfl ⟨_, _, _, _, _, _, _, _, _, _, rfl, hO2.low (by omega), B2⟩
end Go.Proofs.YtplmmamebfpcjaaDoor
end
section
/- What a right model's file is made of: bounds; lengths. -/
namespace Go.Proofs.YtplmmamebfpcjaaDoor
open Oc
set_option linter.unusedVariables false
set_option maxRecDepth 100000
def Mb (ms : List Mg) : Prop := ∀ (i : Nat) x, ms[i]? = some x → (0 ≤ x.l ∧ x.l ≤ 8192) ∧ (0 ≤ x.r ∧ x.r ≤ 8192) ∧ (256 ≤ x.i ∧ x.i ≤ 8192)
def Sb (l : List Sp) : Prop := ∀ (i : Nat) x, l[i]? = some x → (0 ≤ x.lo ∧ x.lo ≤ 1114111) ∧ (0 ≤ x.hi ∧ x.hi ≤ 1114111)
theorem made_bd {ms : List Mg} {n : Nat} {id : Int} {N : Int} (h : madeM ms n id = true) (hb : ∀ x ∈ ms, x.i ≤ N) (hN : 256 ≤ N) : 0 ≤ id ∧ id ≤ N := by
  unfold madeM at h
  simp only [Bool.or_eq_true, Bool.and_eq_true, decide_eq_true_eq, List.any_eq_true, beq_iff_eq] at h
  rcases h with ⟨h1, h2⟩ | ⟨h1, x, hx, h2⟩
  · omega
  · have := hb x (List.mem_of_mem_take hx)
    omega
theorem MOk.mb {ws : List ByteArray} {ms : List Mg} {A B C : List Sp} (h : MOk ws ms A B C) : Mb ms := by
  have h1 := firstBad_none h.cuts
  rw [← first_cut h.words ms.length] at h1
  have h2 := firstBad_zero (f := cutM ws ms) (n := ms.length) (by rw [h1])
  have hm4 := h.m4
  have hnm := h.nm
  have hi : ∀ x ∈ ms, x.i ≤ 8192 := fun x hx => by
    obtain ⟨i, hi, hxi⟩ := List.getElem_of_mem hx
    have h3 := cutM_zero (ws := ws) (List.getElem?_eq_some_iff.2 ⟨hi, hxi⟩) (h2 i hi)
    omega
  intro i x hx
  have hil := (List.getElem?_eq_some_iff.1 hx).1
  obtain ⟨k1, k2, k3, k4, k5, k6⟩ := cutM_zero hx (h2 i hil)
  exact ⟨made_bd k4 hi (by omega), made_bd k5 hi (by omega), k1, by omega⟩
theorem Rgt.sb {l : List Sp} (h : Rgt l) : Sb l := by
  intro i x hx
  obtain ⟨h1, h2, _⟩ := h.row hx
  rw [runeB_iff] at h1 h2
  omega
/-- The spans of the first k lists. -/
def spF3 (A B C : List Sp) (k : Nat) : List UInt8 := ([spansF A, spansF B, spansF C].take k).flatten
theorem MOk.sb {ws : List ByteArray} {ms : List Mg} {A B C : List Sp} (h : MOk ws ms A B C) : Sb A ∧ Sb B ∧ Sb C := by
  have := (check_pass h.cls).1.rgt (by omega)
  exact ⟨this.1.sb, this.2.1.sb, this.2.2.sb⟩
theorem MOk.wb {ws : List ByteArray} {ms : List Mg} {A B C : List Sp} (h : MOk ws ms A B C) : ∀ (i : Nat) x, ws[i]? = some x → x.size ≤ 256 := fun i x hx => (h.words.size hx).2
theorem wordsF_snoc (ws : List ByteArray) (x : ByteArray) : wordsF (ws ++ [x]) = wordsF ws ++ (be4 x.size ++ x.data.toList) := by simp [wordsF]
theorem mgsF_snoc (ms : List Mg) (x : Mg) : mgsF (ms ++ [x]) = mgsF ms ++ mgF x := by simp [mgsF]
theorem wordsF_len (ws : List ByteArray) (h : ∀ (i : Nat) x, ws[i]? = some x → x.size ≤ 256) : (wordsF ws).length ≤ ws.length * 260 := by
  induction ws with
  | nil => simp [wordsF]
  | cons x ws ih =>
    have h0 := h 0 x rfl
    have := ih (fun i y hy => h (i + 1) y (by simpa using hy))
    have e : wordsF (x :: ws) = (be4 x.size ++ x.data.toList) ++ wordsF ws := by simp [wordsF]
    rw [e, List.length_append, List.length_append, show (be4 x.size).length = 4 from rfl, show x.data.toList.length = x.size from Array.length_toList, List.length_cons]
    omega
theorem mgsF_len (ms : List Mg) : (mgsF ms).length = ms.length * 12 := by
  induction ms with
  | nil => rfl
  | cons x ms ih =>
    have e : mgsF (x :: ms) = mgF x ++ mgsF ms := by simp [mgsF]
    rw [e, List.length_append, ih, show (mgF x).length = 12 from rfl, List.length_cons]
    omega
def spsF (l : List Sp) : List UInt8 := l.flatMap spF
theorem spsF_snoc (l : List Sp) (x : Sp) : spsF (l ++ [x]) = spsF l ++ spF x := by simp [spsF]
theorem spsF_len (l : List Sp) : (spsF l).length = l.length * 8 := by
  induction l with
  | nil => rfl
  | cons x l ih =>
    have e : spsF (x :: l) = spF x ++ spsF l := by simp [spsF]
    rw [e, List.length_append, ih, show (spF x).length = 8 from rfl, List.length_cons]
    omega
theorem spansF_len (l : List Sp) : (spansF l).length = 4 + l.length * 8 := by
  show (be4 l.length ++ spsF l).length = _
  rw [List.length_append, spsF_len]; rfl
end Go.Proofs.YtplmmamebfpcjaaDoor
end
section
/- The reader of a file in memory; its smallest calls. -/
namespace Go.Proofs.YtplmmamebfpcjaaDoor
open Go.RowKit Go.Sort Go.Joins
set_option linter.unusedVariables false
set_option maxRecDepth 100000
/-- What a reader holds. -/
structure RS where
  a : Option Addr
  n : Nat
  c : Nat
  p : Nat
  no : Option Addr
  W : Value
  M : Value
  A : Value
  B : Value
  C : Value
  P : Nat → Value
  bl : Nat
def RS.cells (s : RS) : Array Value := #[.slice s.a s.n s.c, .int .i64 (s.p : Nat), .pointer s.no, s.W, s.M, s.A, s.B, s.C, s.P 0, s.P 1, s.P 2, s.P 3, s.P 4, s.P 5, .int .i64 (s.bl : Nat)]
/-- A reader lies at block g. -/
def RB (w : World) (g : Nat) (s : RS) : Prop := w.heap[g]? = some (.cells s.cells 61 (0, 0))
theorem RB.lt {w : World} {g : Nat} {s : RS} (h : RB w g s) : g < w.heap.size := (Array.getElem?_eq_some_iff.1 h).1
theorem RB.cell {w : World} {g : Nat} {s : RS} (h : RB w g s) (i : Nat) : w.cell? ⟨g, i, none⟩ = s.cells[i]? := cell_of_block h i
theorem RB.c0 {w : World} {g : Nat} {s : RS} (h : RB w g s) : w.cell? ⟨g, 0, none⟩ = some (.slice s.a s.n s.c) := (h.cell 0).trans rfl
theorem RB.c1 {w : World} {g : Nat} {s : RS} (h : RB w g s) : w.cell? ⟨g, 1, none⟩ = some (.int .i64 (s.p : Nat)) := (h.cell 1).trans rfl
theorem RB.c2 {w : World} {g : Nat} {s : RS} (h : RB w g s) : w.cell? ⟨g, 2, none⟩ = some (.pointer s.no) := (h.cell 2).trans rfl
theorem RB.c3 {w : World} {g : Nat} {s : RS} (h : RB w g s) : w.cell? ⟨g, 3, none⟩ = some (s.W) := (h.cell 3).trans rfl
theorem RB.c4 {w : World} {g : Nat} {s : RS} (h : RB w g s) : w.cell? ⟨g, 4, none⟩ = some (s.M) := (h.cell 4).trans rfl
theorem RB.c5 {w : World} {g : Nat} {s : RS} (h : RB w g s) : w.cell? ⟨g, 5, none⟩ = some (s.A) := (h.cell 5).trans rfl
theorem RB.c6 {w : World} {g : Nat} {s : RS} (h : RB w g s) : w.cell? ⟨g, 6, none⟩ = some (s.B) := (h.cell 6).trans rfl
theorem RB.c7 {w : World} {g : Nat} {s : RS} (h : RB w g s) : w.cell? ⟨g, 7, none⟩ = some (s.C) := (h.cell 7).trans rfl
theorem RB.c8 {w : World} {g : Nat} {s : RS} (h : RB w g s) : w.cell? ⟨g, 8, none⟩ = some (s.P 0) := (h.cell 8).trans rfl
theorem RB.c9 {w : World} {g : Nat} {s : RS} (h : RB w g s) : w.cell? ⟨g, 9, none⟩ = some (s.P 1) := (h.cell 9).trans rfl
theorem RB.c10 {w : World} {g : Nat} {s : RS} (h : RB w g s) : w.cell? ⟨g, 10, none⟩ = some (s.P 2) := (h.cell 10).trans rfl
theorem RB.c11 {w : World} {g : Nat} {s : RS} (h : RB w g s) : w.cell? ⟨g, 11, none⟩ = some (s.P 3) := (h.cell 11).trans rfl
theorem RB.c12 {w : World} {g : Nat} {s : RS} (h : RB w g s) : w.cell? ⟨g, 12, none⟩ = some (s.P 4) := (h.cell 12).trans rfl
theorem RB.c13 {w : World} {g : Nat} {s : RS} (h : RB w g s) : w.cell? ⟨g, 13, none⟩ = some (s.P 5) := (h.cell 13).trans rfl
theorem RB.c14 {w : World} {g : Nat} {s : RS} (h : RB w g s) : w.cell? ⟨g, 14, none⟩ = some (.int .i64 (s.bl : Nat)) := (h.cell 14).trans rfl
theorem RB.free {w : World} {g : Nat} {s : RS} (h : RB w g s) (i : Nat) : w.frozen? ⟨g, i, none⟩ = false := unfrozen_of_block h i
theorem RB.below {w w' : World} {g B : Nat} {s : RS} (h : RB w g s) (hb : Below B w w') (hg : g < B) : RB w' g s := (hb.block g hg).trans h
theorem RB.other {w : World} {g b o : Nat} {s : RS} (h : RB w g s) (hb : g ≠ b) (v : Value) : RB (w.setCell ⟨b, o, none⟩ v) g s := (Below.heap_setCell _ _ _ _ hb).trans h
theorem RB.setP {w : World} {g : Nat} {s : RS} (h : RB w g s) (q : Nat) : RB (w.setCell ⟨g, 1, none⟩ (.int .i64 (q : Nat))) g { s with p := q } := by
  have := block_setCell h (i := 1) (.int .i64 (q : Nat))
  unfold RB; rw [this]; rfl
theorem RB.setNo {w : World} {g : Nat} {s : RS} (h : RB w g s) (q : Option Addr) : RB (w.setCell ⟨g, 2, none⟩ (.pointer q)) g { s with no := q } := by
  have := block_setCell h (i := 2) (.pointer q)
  unfold RB; rw [this]; rfl
theorem RB.setW {w : World} {g : Nat} {s : RS} (h : RB w g s) (v : Value) : RB (w.setCell ⟨g, 3, none⟩ v) g { s with W := v } := by
  have := block_setCell h (i := 3) v
  unfold RB; rw [this]; rfl
theorem RB.setM {w : World} {g : Nat} {s : RS} (h : RB w g s) (v : Value) : RB (w.setCell ⟨g, 4, none⟩ v) g { s with M := v } := by
  have := block_setCell h (i := 4) v
  unfold RB; rw [this]; rfl
theorem RB.setA {w : World} {g : Nat} {s : RS} (h : RB w g s) (v : Value) : RB (w.setCell ⟨g, 5, none⟩ v) g { s with A := v } := by
  have := block_setCell h (i := 5) v
  unfold RB; rw [this]; rfl
theorem RB.setB {w : World} {g : Nat} {s : RS} (h : RB w g s) (v : Value) : RB (w.setCell ⟨g, 6, none⟩ v) g { s with B := v } := by
  have := block_setCell h (i := 6) v
  unfold RB; rw [this]; rfl
theorem RB.setC {w : World} {g : Nat} {s : RS} (h : RB w g s) (v : Value) : RB (w.setCell ⟨g, 7, none⟩ v) g { s with C := v } := by
  have := block_setCell h (i := 7) v
  unfold RB; rw [this]; rfl
theorem RB.setBl {w : World} {g : Nat} {s : RS} (h : RB w g s) (q : Nat) : RB (w.setCell ⟨g, 14, none⟩ (.int .i64 (q : Nat))) g { s with bl := q } := by
  have := block_setCell h (i := 14) (.int .i64 (q : Nat))
  unfold RB; rw [this]; rfl
def updP (P : Nat → Value) (k : Nat) (v : Value) : Nat → Value := fun i => if i = k then v else P i
theorem RB.cellP {w : World} {g : Nat} {s : RS} (h : RB w g s) {k : Nat} (hk : k < 6) : w.cell? ⟨g, 8 + k, none⟩ = some (s.P k) := by
  rw [h.cell]
  rcases (show k = 0 ∨ k = 1 ∨ k = 2 ∨ k = 3 ∨ k = 4 ∨ k = 5 by omega) with rfl | rfl | rfl | rfl | rfl | rfl <;> rfl
theorem RB.setPl {w : World} {g : Nat} {s : RS} (h : RB w g s) {k : Nat} (hk : k < 6) (v : Value) : RB (w.setCell ⟨g, 8 + k, none⟩ v) g { s with P := updP s.P k v } := by
  have := block_setCell h (i := 8 + k) v
  unfold RB; rw [this]
  rcases (show k = 0 ∨ k = 1 ∨ k = 2 ∨ k = 3 ∨ k = 4 ∨ k = 5 by omega) with rfl | rfl | rfl | rfl | rfl | rfl <;> rfl
/-- A refusal lies at block N. -/
def Rf (w : World) (N : Nat) (e : Er) : Prop := w.heap[N]? = some (.cells #[.int .i64 (e.1 : Nat), .int .i64 (e.2 : Nat)] 57 (0, 0))
theorem Rf.lt {w : World} {N : Nat} {e : Er} (h : Rf w N e) : N < w.heap.size := (Array.getElem?_eq_some_iff.1 h).1
theorem Rf.below {w w' : World} {B N : Nat} {e : Er} (h : Rf w N e) (hb : Below B w w') (hg : N < B) : Rf w' N e := (hb.block N hg).trans h
/-- The reader has refused; else it holds what s holds. -/
def RErr (w : World) (g : Nat) (s : RS) (e : Er) : Prop := ∃ p N, RB w g { s with p := p, no := some ⟨N, 0, none⟩ } ∧ g < N ∧ Rf w N e
theorem But.rf {w w' : World} {g N B : Nat} {e : Er} (h : But g B w w') (hB : N < B) (hn : N ≠ g) (hr : Rf w N e) : Rf w' N e := (h.2.2.2.2 N hB hn).trans hr
theorem RErr.below {w w' : World} {g : Nat} {s : RS} {e : Er} (h : RErr w g s e) (hb : Below w.heap.size w w') : RErr w' g s e := by
  obtain ⟨p, N, h1, h3, h4⟩ := h
  exact ⟨p, N, h1.below hb h1.lt, h3, h4.below hb h4.lt⟩
theorem RErr.lt {w : World} {g : Nat} {s : RS} {e : Er} (h : RErr w g s e) : g < w.heap.size := by obtain ⟨p, N, h1, _⟩ := h; exact h1.lt
/-- A reader that reads on at a place, or has refused. -/
def Rx (w : World) (g : Nat) (s : RS) (x : Except Er Nat) : Prop :=
  match x with
  | .ok q => RB w g { s with p := q, no := none }
  | .error e => RErr w g s e
theorem Rx.form {w : World} {g : Nat} {s : RS} {x : Except Er Nat} (h : Rx w g s x) : ∃ p no, RB w g { s with p := p, no := no } := by
  cases x with
  | ok q => exact ⟨_, _, h⟩
  | error e => obtain ⟨p, N, h1, _⟩ := h; exact ⟨_, _, h1⟩
theorem Rx.lt {w : World} {g : Nat} {s : RS} {x : Except Er Nat} (h : Rx w g s x) : g < w.heap.size := by obtain ⟨_, _, h⟩ := h.form; exact h.lt
theorem Rx.below {w w' : World} {g : Nat} {s : RS} {x : Except Er Nat} (h : Rx w g s x) (hb : Below w.heap.size w w') : Rx w' g s x := by
  cases x with
  | ok q => exact RB.below h hb (RB.lt h)
  | error e => exact RErr.below h hb
set_option maxHeartbeats 400000 in
theorem refuse_any (g : Nat) (s : RS) (p y : Nat) (w : World) (h : RB w g s) :
    Calls Tryd.prog 43 #[.pointer (some ⟨g, 0, none⟩), .int .i64 (p : Nat), .int .i64 (y : Nat)] w fun e w' => e = .returned (.tuple #[]) ∧ RErr w' g s (p, y) ∧ But g w.heap.size w w' := by
  have hb := box_below w (.cells #[.int .i64 (p : Nat), .int .i64 (y : Nat)] 57)
  have h' := h.below hb h.lt
  have f2 := h'.free 2
  have c2 := h'.c2
  have hlt := h.lt
  have x2 := h.c2
  have y2 := h.free 2
  go_enter Tryd.func43, Tryd.ntmps43
  go_wp2_with fail
  have hs := h.setNo (some ⟨w.heap.size, 0, none⟩)
  have hb2 := box_below (w.setCell ⟨g, 2, none⟩ (.pointer (some ⟨w.heap.size, 0, none⟩))) (.cells #[.int .i64 (p : Nat), .int .i64 (y : Nat)] 57)
  have hN := heap_alloc_new (w.setCell ⟨g, 2, none⟩ (.pointer (some ⟨w.heap.size, 0, none⟩))) (.cells #[.int .i64 (p : Nat), .int .i64 (y : Nat)] 57)
  have hz : (w.setCell ⟨g, 2, none⟩ (.pointer (some ⟨w.heap.size, 0, none⟩))).heap.size = w.heap.size := by simp [World.setCell]
  rw [hz] at hN
  refine bodyPost_end (v := .tuple #[]) (by simp [results, Tryd.results43, go_sem]) rfl ⟨rfl, ⟨_, w.heap.size, hs.below hb2 hs.lt, hlt, hN⟩, ?_⟩
  exact ((But.refl g w.heap.size w).setCell 2 _).trans (But.of_below (hb2.mono (by rw [hz]; exact Nat.le_refl _)))
end Go.Proofs.YtplmmamebfpcjaaDoor
end
section
/- reader.number: its contract. -/
namespace Go.Proofs.YtplmmamebfpcjaaDoor
open Go.RowKit Go.Sort Go.Joins
set_option linter.unusedVariables false
set_option maxRecDepth 100000
theorem getR_in {l : List UInt8} {p : Nat} (h : p + 4 ≤ l.length) : Oc.getR l (p : Nat) = (Oc.num4 l p, (p : Int) + 4, 0) := by
  unfold Oc.getR
  rw [if_neg (by omega), if_neg (by omega)]
  rfl
theorem getR_out {l : List UInt8} {p : Nat} (h : ¬ p + 4 ≤ l.length) : ∃ y : Nat, y ≠ 0 ∧ Oc.getR l (p : Nat) = (0, 0, (y : Int)) := by
  unfold Oc.getR
  by_cases h1 : (p : Int) < 0 ∨ (l.length : Int) < p
  · exact ⟨1, by omega, by rw [if_pos h1]; rfl⟩
  · exact ⟨10, by omega, by rw [if_neg h1, if_pos (by omega)]; rfl⟩
/-- The bytes that a reader reads. -/
structure Fl (w : World) (s : RS) (l : List UInt8) : Prop where
  n : s.n = l.length
  le : l.length ≤ s.c
  lim : l.length ≤ 4194304
  at' : Oc.BS w s.a l
theorem Fl.below {w w' : World} {s : RS} {l : List UInt8} (h : Fl w s l) (hb : Below w.heap.size w w') : Fl w' s l := ⟨h.n, h.le, h.lim, h.at'.below hb⟩
/-- What a reader's call leaves that reads to q, or refuses. -/
def NumP (l : List UInt8) (w : World) (g : Nat) (s : RS) (x : Except Er (Nat × Nat)) (f : Nat → Value) (e : Ending) (w' : World) : Prop :=
  But g w.heap.size w w' ∧ match x with
  | .ok (n, q) => e = .returned (f n) ∧ RB w' g { s with p := q }
  | .error r => e = .returned (f 0) ∧ RErr w' g s r
set_option maxHeartbeats 4000000 in
theorem number_any (g : Nat) (s : RS) (l : List UInt8) (lo hi y : Nat) (w : World) (hlo : lo < 4294967296) (hhi : hi < 4294967296) (h : RB w g s) (h0 : s.no = none) (hF : Fl w s l) :
    Calls Tryd.prog 44 #[.pointer (some ⟨g, 0, none⟩), .int .u32 (lo : Nat), .int .u32 (hi : Nat), .int .i64 (y : Nat)] w (NumP l w g s (numP l lo hi y s.p) (fun n => .int .u32 (n : Nat))) := by
  have hR := fun W h1 => refuse_any g s l.length 10 W h1
  have hR2 := fun W h1 => refuse_any g s s.p y W h1
  have x0 := h.c0
  have x1 := h.c1
  have x2 := h.c2
  have hd : Below w.heap.size w w.drew := (Below.refl _ _).drew
  have hG := Oc.get_any s.a s.c l (s.p : Nat) w.drew (by have := hF.lim; omega) hF.le (hF.at'.below hd)
  have hll := hF.lim
  rw [h0] at x2
  have HS := h
  have hn0 := hF.n
  obtain ⟨sa, sn, sc, p, no, sW, sM, sA, sB, sC, sP, sbl⟩ := s
  simp only at *
  subst h0
  subst hn0
  clear hF
  have HH : Hid (RB w g _) := HS
  clear HS h
  by_cases h4 : p + 4 ≤ l.length
  · rw [getR_in h4] at hG
    have hn := Oc.num4_lt l p
    obtain ⟨n, hnn⟩ : ∃ n, n = Oc.num4 l p := ⟨_, rfl⟩
    rw [← hnn] at hG hn
    by_cases h5 : n < lo
    · rw [numP_bad h4 (by rw [← hnn]; exact .inl h5)]
      clear hnn
      go_enter Tryd.func44, Tryd.ntmps44
      go_wp2_with fail
      go_region_held3 (fun w' => w'.cell? ⟨g, 0, none⟩ = some (.slice sa l.length sc) ∧ w'.cell? ⟨g, 1, none⟩ = some (.int .i64 (p : Nat))) (go_keep) ((go_at_call 56; refine hG.mono ?_; rintro e w1 ⟨rfl, hb1⟩; have h1 := HH.out.below (hd.trans hb1) HH.out.lt; have z0 := h1.c0; have z1 := h1.c1; have f1 := h1.free 1))
      have B1 : Below w.heap.size w w1 := hd.trans hb1
      clear hG
      go_wp2_with fail
      refine (hR2 w1 h1).mono ?_
      rintro e w2 ⟨rfl, hb2, hb3⟩
      go_wp2_with fail
      go_ret
      exact ⟨(But.of_below B1).trans (hb3.mono B1.size), rfl, hb2⟩
    · by_cases h6 : hi < n
      · rw [numP_bad h4 (by rw [← hnn]; exact .inr h6)]
        clear hnn
        go_enter Tryd.func44, Tryd.ntmps44
        go_wp2_with fail
        go_region_held3 (fun w' => w'.cell? ⟨g, 0, none⟩ = some (.slice sa l.length sc) ∧ w'.cell? ⟨g, 1, none⟩ = some (.int .i64 (p : Nat))) (go_keep) ((go_at_call 56; refine hG.mono ?_; rintro e w1 ⟨rfl, hb1⟩; have h1 := HH.out.below (hd.trans hb1) HH.out.lt; have z0 := h1.c0; have z1 := h1.c1; have f1 := h1.free 1))
        have B1 : Below w.heap.size w w1 := hd.trans hb1
        clear hG
        go_wp2_with fail
        refine (hR2 w1 h1).mono ?_
        rintro e w2 ⟨rfl, hb2, hb3⟩
        go_wp2_with fail
        go_ret
        exact ⟨(But.of_below B1).trans (hb3.mono B1.size), rfl, hb2⟩
      · rw [numP_ok h4 (by rw [← hnn]; omega), ← hnn]
        clear hnn
        go_enter Tryd.func44, Tryd.ntmps44
        go_wp2_with fail
        go_region_held3 (fun w' => w'.cell? ⟨g, 0, none⟩ = some (.slice sa l.length sc) ∧ w'.cell? ⟨g, 1, none⟩ = some (.int .i64 (p : Nat))) (go_keep) ((go_at_call 56; refine hG.mono ?_; rintro e w1 ⟨rfl, hb1⟩; have h1 := HH.out.below (hd.trans hb1) HH.out.lt; have z0 := h1.c0; have z1 := h1.c1; have f1 := h1.free 1))
        have B1 : Below w.heap.size w w1 := hd.trans hb1
        clear hG
        go_wp2_with fail
        have hs := h1.setP (p + 4)
        go_ret
        exact ⟨(But.of_below B1).setCell 1 _, rfl, hs⟩
  · obtain ⟨y0, hy0, hy1⟩ := getR_out h4
    have hy : ((y0 : Int) == 0) = false := by simp; omega
    rw [hy1] at hG
    rw [numP_short h4]
    go_enter Tryd.func44, Tryd.ntmps44
    go_wp2_with fail
    go_region_held3 (fun w' => w'.cell? ⟨g, 0, none⟩ = some (.slice sa l.length sc) ∧ w'.cell? ⟨g, 1, none⟩ = some (.int .i64 (p : Nat))) (go_keep) ((go_at_call 56; refine hG.mono ?_; rintro e w1 ⟨rfl, hb1⟩; have h1 := HH.out.below (hd.trans hb1) HH.out.lt; have z0 := h1.c0; have z1 := h1.c1; have f1 := h1.free 1))
    have B1 : Below w.heap.size w w1 := hd.trans hb1
    clear hG
    go_wp2_with fail
    refine (hR w1 h1).mono ?_
    rintro e w2 ⟨rfl, hb2, hb3⟩
    go_wp2_with fail
    go_ret
    exact ⟨(But.of_below B1).trans (hb3.mono B1.size), rfl, hb2⟩
end Go.Proofs.YtplmmamebfpcjaaDoor
end
