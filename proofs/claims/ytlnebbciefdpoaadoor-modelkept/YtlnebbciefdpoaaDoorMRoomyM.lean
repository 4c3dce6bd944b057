/- tesserabook.Roomy, Same, Intact of merges: their contracts. -/
import Derived.Test.YtlnebbciefdpoaaDoorMClone
import Derived.Test.YtlnebbciefdpoaaDoorSRoomy
import Derived.Laws.StructEq
namespace Go.Proofs.YtlnebbciefdpoaaDoor
open Go.RowKit Go.Sort Go.Joins
theorem MgAt.new (w : World) (m : Mg) (t : TypeId) : MgAt (w.alloc (.cells #[.int .i64 m.l, .int .i64 m.r, .int .i64 m.i] t)) w.heap.size 0 m := ⟨by simp [go_sem], by simp [go_sem], by simp [go_sem]⟩
def gL : Field := Field.mk "Left" 3 0 false "" "" 0
def gR : Field := Field.mk "Right" 3 1 false "" "" 8
def gI : Field := Field.mk "Id" 3 2 false "" "" 16
theorem fieldsM : Tryd.prog.fieldsOf 36 = #[gL, gR, gI] := by kernel_rfl
theorem undM : Tryd.prog.underlying 36 = some (.struct #[gL, gR, gI]) := by kernel_rfl
theorem heldM : Tryd.prog.stoodInHeld 36 = false := by kernel_rfl
theorem guardM : Tryd.prog.eqGuardType Tryd.prog.depth 36 = false := by kernel_rfl
def mgEq (x y : Mg) : Bool := x.l == y.l && (x.r == y.r && x.i == y.i)
theorem mgEq_self (x : Mg) : mgEq x x = true := by simp [mgEq]
theorem equal_mg (a b c a' b' c' : Int) (W : World) : (Op.equalIn 10000 36 (.agg #[.int .i64 a, .int .i64 b, .int .i64 c]) (.agg #[.int .i64 a', .int .i64 b', .int .i64 c'])).run Tryd.prog W = .ok (a == a' && (b == b' && c == c')) W := by
  rw [run_equalIn_agg W 9999 36 _ _ (by rw [fieldsM]; exact undM) heldM, fieldsM]
  simp [go_sem, Op.eqFields, gL, gR, gI, part]
  by_cases h1 : a = a'
  · by_cases h2 : b = b'
    · by_cases h3 : c = c'
      · simp [h1, h2, h3]
      · simp [h1, h2, h3]
    · simp [h1, h2]
  · simp [h1]
theorem eql_mg (x y : Mg) (v : Bool) (h : mgEq x y = v) (W : World) : (binOp BinOp.eql 36 (.agg #[.int .i64 x.l, .int .i64 x.r, .int .i64 x.i]) (.agg #[.int .i64 y.l, .int .i64 y.r, .int .i64 y.i])).run Tryd.prog W = .ok (.bool v) W := by
  rw [run_eql_struct, equal_mg, ← h]
  rfl
theorem neq_mg (x y : Mg) (v : Bool) (h : (!mgEq x y) = v) (W : World) : (binOp BinOp.neq 36 (.agg #[.int .i64 x.l, .int .i64 x.r, .int .i64 x.i]) (.agg #[.int .i64 y.l, .int .i64 y.r, .int .i64 y.i])).run Tryd.prog W = .ok (.bool v) W := by
  rw [run_neq_struct, equal_mg, ← h]
  rfl
theorem eqIn_mg (x y : Mg) (v : Bool) (h : mgEq x y = v) (W : World) : (Op.equalIn 10000 36 (.agg #[.int .i64 x.l, .int .i64 x.r, .int .i64 x.i]) (.agg #[.int .i64 y.l, .int .i64 y.r, .int .i64 y.i])).run Tryd.prog W = .ok v W := by
  rw [equal_mg, ← h]
  rfl
/-- A block of merges' cells. -/
def OwnPm (w : World) (g : Nat) (L : List Value) : Prop := w.heap[g]? = some (.cells L.toArray 36 (0, 0))
theorem OwnPm.below {w w' : World} {g : Nat} {L : List Value} {B : Nat} (h : OwnPm w g L) (hb : Below B w w') (hg : g < B) : OwnPm w' g L := by
  unfold OwnPm; rw [hb.block g hg]; exact h
theorem OwnPm.lt {w : World} {g : Nat} {L : List Value} (h : OwnPm w g L) : g < w.heap.size := (Array.getElem?_eq_some_iff.1 h).1
theorem OwnPm.cell {w : World} {g : Nat} {L : List Value} (h : OwnPm w g L) (j : Nat) : w.cell? ⟨g, j, none⟩ = L[j]? := by
  rw [cell_of_block h]; simp
theorem OwnPm.free {w : World} {g : Nat} {L : List Value} (h : OwnPm w g L) (j : Nat) : w.frozen? ⟨g, j, none⟩ = false := unfrozen_of_block h j
theorem OwnPm.set {w : World} {g : Nat} {L : List Value} (h : OwnPm w g L) (j : Nat) (v : Value) : OwnPm (w.setCell ⟨g, j, none⟩ v) g (L.set j v) := by
  have := block_setCell h (i := j) v
  unfold OwnPm; rw [this]; simp
theorem MSP.of_block {w : World} {g : Nat} {l r : List Mg} {t : TypeId} {fr : Nat × Nat} (h : w.heap[g]? = some (.cells (cellsM (l ++ r)).toArray t fr)) : MSP w (some ⟨g, 0, none⟩) l := by
  refine .inr ⟨g, 0, rfl, fun i x hx => ?_⟩
  have hx' : (l ++ r)[i]? = some x := by
    rw [List.getElem?_append_left (List.getElem?_eq_some_iff.1 hx).1]; exact hx
  obtain ⟨h0, h1, h2⟩ := cellsM_get _ _ _ hx'
  unfold MgAt
  rw [cell_of_block h, cell_of_block h, cell_of_block h, Nat.zero_add]
  exact ⟨by simpa using h0, by simpa using h1, by simpa using h2⟩
theorem cellsM_append (l r : List Mg) : cellsM (l ++ r) = cellsM l ++ cellsM r := by simp [cellsM]
theorem cellsM_set (l : List Mg) (i : Nat) (x : Mg) : (((cellsM l).set (i * 3) (.int .i64 x.l)).set (i * 3 + 1) (.int .i64 x.r)).set (i * 3 + 2) (.int .i64 x.i) = cellsM (l.set i x) := by
  induction l generalizing i with
  | nil => simp [cellsM]
  | cons y l ih =>
    have e : ∀ z, cellsM (z :: l) = .int .i64 z.l :: .int .i64 z.r :: .int .i64 z.i :: cellsM l := fun z => rfl
    cases i with
    | zero => rfl
    | succ i =>
      have e2 : cellsM ((y :: l).set (i + 1) x) = .int .i64 y.l :: .int .i64 y.r :: .int .i64 y.i :: cellsM (l.set i x) := rfl
      rw [e2, e, ← ih i, show (i + 1) * 3 = i * 3 + 1 + 1 + 1 by omega]
      rfl
def fillM (l : List Mg) (m : Mg) (k : Nat) : List Mg := l ++ (List.replicate k m ++ List.replicate (80 - k) ⟨0, 0, 0⟩)
theorem fillM_set (l : List Mg) (m : Mg) (k : Nat) (h : k < 80) : (fillM l m k).set (l.length + k) m = fillM l m (k + 1) := by
  unfold fillM
  rw [List.set_append_right _ _ (by omega), Nat.add_sub_cancel_left, List.set_append_right _ _ (by simp)]
  simp only [List.length_replicate, Nat.sub_self]
  rw [show 80 - k = (80 - (k + 1)) + 1 from by omega, List.replicate_succ, List.set_cons_zero, List.replicate_succ', List.append_assoc]
  rfl
theorem fillM_length (l : List Mg) (m : Mg) (k : Nat) (h : k ≤ 80) : (fillM l m k).length = l.length + 80 := by
  simp [fillM]; omega
theorem fillM_get (l : List Mg) (m : Mg) (n k : Nat) (h : k < n) : (fillM l m n)[l.length + k]? = some m := by
  unfold fillM
  rw [List.getElem?_append_right (by omega), Nat.add_sub_cancel_left, List.getElem?_append_left (by simpa using h)]
  simp [h]
theorem fillM_start (l : List Mg) (m : Mg) : fillM l ⟨0, 0, 0⟩ 0 = fillM l m 0 := by simp [fillM]
theorem copy_cellsM (l : List Mg) : (cellsM (List.replicate (l.length + 80) ⟨0, 0, 0⟩)).take 0 ++ cellsM l ++ (cellsM (List.replicate (l.length + 80) ⟨0, 0, 0⟩)).drop (0 + (cellsM l).length) = cellsM (fillM l ⟨0, 0, 0⟩ 0) := by
  have h : cellsM (List.replicate (l.length + 80) ⟨0, 0, 0⟩) = cellsM (List.replicate l.length ⟨0, 0, 0⟩) ++ cellsM (List.replicate 80 ⟨0, 0, 0⟩) := by
    rw [← cellsM_append, List.replicate_append_replicate]
  rw [h, Nat.zero_add, List.drop_append_of_le_length (by rw [cellsM_length, cellsM_length]; simp), List.drop_of_length_le (by rw [cellsM_length, cellsM_length]; simp)]
  unfold fillM
  simp [cellsM_append]
theorem sizeM : (Tryd.prog.info? 36).map (·.size) = some 3 := by kernel_rfl
theorem madeMg (n : Nat) : madeCells #[Value.int .i64 0, Value.int .i64 0, Value.int .i64 0] (n * 3) = (cellsM (List.replicate n ⟨0, 0, 0⟩)).toArray := by
  have e : cellsM (List.replicate n ⟨0, 0, 0⟩) = List.replicate (n * 3) (.int .i64 0) := by
    induction n with
    | zero => rfl
    | succ n ih =>
      rw [List.replicate_succ, show cellsM (⟨0, 0, 0⟩ :: List.replicate n ⟨0, 0, 0⟩) = .int .i64 0 :: .int .i64 0 :: .int .i64 0 :: cellsM (List.replicate n ⟨0, 0, 0⟩) from rfl, ih, show (n + 1) * 3 = n * 3 + 1 + 1 + 1 by omega, List.replicate_succ, List.replicate_succ, List.replicate_succ]
  rw [e]
  apply Array.ext
  · simp [madeCells]
  · intro i h1 h2
    simp only [madeCells, Array.getElem_map, List.getElem_toArray, List.getElem_replicate]
    have : (Array.range (n * 3))[i]'(by simpa [madeCells] using h1) % #[Value.int .i64 0, Value.int .i64 0, Value.int .i64 0].size < 3 := Nat.mod_lt _ (by decide)
    generalize (Array.range (n * 3))[i]'(by simpa [madeCells] using h1) % #[Value.int .i64 0, Value.int .i64 0, Value.int .i64 0].size = j at this
    match j, this with
    | 0, _ => rfl
    | 1, _ => rfl
    | 2, _ => rfl
theorem copy_runM (W : World) (g : Nat) (a : Option Addr) (cap : Nat) (l : List Mg) (hO : OwnPm W g (cellsM (List.replicate (l.length + 80) ⟨0, 0, 0⟩))) (h : MSP W a l) :
    ∃ W1, (Builtin.copy_ #[39, 39] 3 #[.slice (some ⟨g, 0, none⟩) (l.length + 80) (l.length + 80), .slice a l.length cap]).run Tryd.prog W = .ok (.int .i64 (l.length : Int)) W1 ∧
      OwnPm W1 g (cellsM (fillM l ⟨0, 0, 0⟩ 0)) ∧ ∀ B w0, Below B w0 W → B ≤ g → Below B w0 W1 := by
  have nil : l = [] → ∃ W1, (Builtin.copy_ #[39, 39] 3 #[.slice (some ⟨g, 0, none⟩) (l.length + 80) (l.length + 80), .slice a l.length cap]).run Tryd.prog W = .ok (.int .i64 (l.length : Int)) W1 ∧
      OwnPm W1 g (cellsM (fillM l ⟨0, 0, 0⟩ 0)) ∧ ∀ B w0, Below B w0 W → B ≤ g → Below B w0 W1 := by
    rintro rfl
    refine ⟨W, ?_, by simpa [fillM] using hO, fun _ _ h _ => h⟩
    have hl : ∀ (x : Addr), (loadCells x 0).run Tryd.prog W = .ok #[] W := fun x => by simpa using run_loadCells_list (P := Tryd.prog) W x [] (by simp)
    cases hq : Tryd.prog.info? 36 with
    | none => have := sizeM; simp [hq] at this
    | some i =>
      cases a <;> simp [Builtin.copy_, run_underlying Tryd.underlying39, Builtin.lenOf, Builtin.firstCells, sizeOf, typeInfo, hq, storeCells, hl, goInt]
  rcases h with h | ⟨b, off, rfl, hc⟩
  · exact nil h
  · have hmin : Nat.min l.length (l.length + 80) = l.length := Nat.min_eq_left (by omega)
    have hr := run_copy_rowN (P := Tryd.prog) W 39 39 3 36 3 g 0 (l.length + 80) (l.length + 80) ⟨b, off, none⟩ l.length cap _ 36 (cellsM l) Tryd.underlying39 sizeM hO (by rw [hmin, cellsM_length])
      (MSP.cells (.inr ⟨b, off, rfl, hc⟩)) (by rw [List.size_toArray, cellsM_length, cellsM_length]; simp; omega) (cellsM_one l)
    rw [hmin] at hr
    refine ⟨_, hr, ?_, fun B w0 hb hg => below_setRow hb hg _⟩
    have := setRow_heap W g (cellsM (List.replicate (l.length + 80) ⟨0, 0, 0⟩)).toArray ((cellsM (List.replicate (l.length + 80) ⟨0, 0, 0⟩)).take 0 ++ cellsM l ++ (cellsM (List.replicate (l.length + 80) ⟨0, 0, 0⟩)).drop (0 + (cellsM l).length)).toArray 36 (0, 0) hO
    rw [copy_cellsM] at this
    unfold OwnPm
    rw [← this]
    rw [copy_cellsM]
theorem MgAt.other {w : World} {b off g : Nat} {x : Mg} (h : MgAt w b off x) (i j k : Nat) (u v y : Value) (hg : b ≠ g) : MgAt (((w.setCell ⟨g, i, none⟩ u).setCell ⟨g, j, none⟩ v).setCell ⟨g, k, none⟩ y) b off x := by
  have e : ∀ o, (((w.setCell ⟨g, i, none⟩ u).setCell ⟨g, j, none⟩ v).setCell ⟨g, k, none⟩ y).cell? ⟨b, o, none⟩ = w.cell? ⟨b, o, none⟩ := fun o => by
    rw [World.cell?_setCell_other _ _ _ _ (fun e => hg (by injection e with e; exact e.symm)), World.cell?_setCell_other _ _ _ _ (fun e => hg (by injection e with e; exact e.symm)), World.cell?_setCell_other _ _ _ _ (fun e => hg (by injection e with e; exact e.symm))]
  exact ⟨(e _).trans h.1, (e _).trans h.2.1, (e _).trans h.2.2⟩
set_option maxHeartbeats 1600000 in
theorem roomyM_any (a : Option Addr) (cap : Nat) (l : List Mg) (m : Mg) (w : World) (hlen : l.length ≤ 5864062014805) (h : MSP w a l) :
    Calls Tryd.prog 40 #[.slice a l.length cap, mgV m] w fun e w' => ∃ g, w.heap.size ≤ g ∧
      e = .returned (.slice (some ⟨g, 0, none⟩) (l.length + 80) (l.length + 80)) ∧ Below w.heap.size w w' ∧ OwnPm w' g (cellsM (fillM l m 80)) := by
  obtain ⟨i0, hi, hz0, hz1, hz2⟩ := info_parts infoM
  have hmk : ∀ u : World, (Instr.makeSlice 39 (.int .i64 ((l.length : Int) + 80)) (.int .i64 ((l.length : Int) + 80))).run Tryd.prog u =
      .ok (.slice (some ⟨u.heap.size, 0, none⟩) (l.length + 80) (l.length + 80)) (u.alloc (.cells (cellsM (List.replicate (l.length + 80) ⟨0, 0, 0⟩)).toArray 36)) := fun u => by
    have h := run_make (P := Tryd.prog) u 39 36 i0 _ Tryd.underlying39 hi hz0 .i64 .i64 ((l.length : Int) + 80) ((l.length : Int) + 80) (by omega) (Int.le_refl _) (by rw [hz2]; omega) (by omega)
    have e : ((l.length : Int) + 80).toNat = l.length + 80 := by omega
    rw [e, hz1] at h
    rw [← madeMg]
    simpa [Value.cells] using h
  have b0 := (Below.refl w.heap.size w).alloc (Nat.le_refl _) (.cells #[.int .i64 m.l, .int .i64 m.r, .int .i64 m.i] 36)
  have b1 := b0.alloc (by simp) (.cells (cellsM (List.replicate (l.length + 80) ⟨0, 0, 0⟩)).toArray 36)
  have p1 : MgAt ((w.alloc (.cells #[.int .i64 m.l, .int .i64 m.r, .int .i64 m.i] 36)).alloc (.cells (cellsM (List.replicate (l.length + 80) ⟨0, 0, 0⟩)).toArray 36)) w.heap.size 0 m :=
    (MgAt.new w m _).below ((Below.refl _ _).alloc (Nat.le_refl _) _)
  have hO : OwnPm ((w.alloc (.cells #[.int .i64 m.l, .int .i64 m.r, .int .i64 m.i] 36)).alloc (.cells (cellsM (List.replicate (l.length + 80) ⟨0, 0, 0⟩)).toArray 36)) (w.heap.size + 1) (cellsM (List.replicate (l.length + 80) ⟨0, 0, 0⟩)) := by
    have := heap_alloc_new (w.alloc (.cells #[.int .i64 m.l, .int .i64 m.r, .int .i64 m.i] 36)) (.cells (cellsM (List.replicate (l.length + 80) ⟨0, 0, 0⟩)).toArray 36)
    rw [World.size_alloc] at this
    exact this
  obtain ⟨w1, hcp, ho1, hb1⟩ := copy_runM _ (w.heap.size + 1) a cap l hO (h.below b1)
  have hB1 := hb1 _ _ b1 (by omega)
  have hP1 := hb1 _ _ (Below.refl (w.heap.size + 1) _) (Nat.le_refl _)
  have p2 : MgAt w1 w.heap.size 0 m := by
    have e : ∀ o, w1.cell? ⟨w.heap.size, o, none⟩ = ((w.alloc (.cells #[.int .i64 m.l, .int .i64 m.r, .int .i64 m.i] 36)).alloc (.cells (cellsM (List.replicate (l.length + 80) ⟨0, 0, 0⟩)).toArray 36)).cell? ⟨w.heap.size, o, none⟩ := fun o =>
      hP1.cell (p := ⟨w.heap.size, o, none⟩) (by simp)
    exact ⟨(e 0).trans p1.1, (e (0 + 1)).trans p1.2.1, (e (0 + 2)).trans p1.2.2⟩
  rw [fillM_start l m] at ho1
  clear hO h b0 b1 p1 hb1 hP1
  unfold mgV
  go_enter Tryd.func40, Tryd.ntmps40
  go_wp2
  go_loopw [6] (fun v wr => ∃ i : Nat, l.length ≤ i ∧ i ≤ l.length + 80 ∧ v = .int .i64 (i : Nat) ∧ OwnPm wr (w.heap.size + 1) (cellsM (fillM l m (i - l.length))) ∧ MgAt wr w.heap.size 0 m ∧ Below w.heap.size w wr) (fun v _ => 80 + l.length - (intOf v).toNat)
  case atStart => exact ⟨l.length, Nat.le_refl _, by omega, rfl, by rw [Nat.sub_self]; exact ho1, p2, hB1⟩
  case round =>
    clear ho1 p2 hB1 hcp hmk
    obtain ⟨i, hi1, hi2, rfl, hown, ⟨m0, m1, m2⟩, hbr⟩ := hrel
    have HO : Hid (OwnPm wr (w.heap.size + 1) (cellsM (fillM l m (i - l.length)))) := hown
    by_cases hlt : i < l.length + 80
    · obtain ⟨y, hx⟩ : ∃ y, (fillM l m (i - l.length))[i]? = some y := ⟨_, List.getElem?_eq_getElem (by rw [fillM_length _ _ _ (by omega)]; omega)⟩
      have c0 := (hown.cell (i * 3)).trans (cellsM_get _ _ _ hx).1
      have c1 := (hown.cell (i * 3 + 1)).trans (cellsM_get _ _ _ hx).2.1
      have c2 := (hown.cell (i * 3 + 2)).trans (cellsM_get _ _ _ hx).2.2
      have f0 := hown.free (i * 3)
      have f1 := hown.free (i * 3 + 1)
      have f2 := hown.free (i * 3 + 2)
      have hd : decide ((i : Int) < (l.length : Int) + 80) = true := decide_eq_true (by omega)
      have M0 : Hid (MgAt wr w.heap.size 0 m) := ⟨m0, m1, m2⟩
      rw [Nat.zero_add] at m1 m2
      clear hx hown
      go_wp2_with fail
      refine ⟨⟨i + 1, by omega, by omega, by go_num, ?_, M0.out.other _ _ _ _ _ _ (by omega), ((hbr.setCell (p := ⟨w.heap.size + 1, i * 3, none⟩) (show w.heap.size ≤ w.heap.size + 1 by omega) _).setCell (p := ⟨w.heap.size + 1, i * 3 + 1, none⟩) (show w.heap.size ≤ w.heap.size + 1 by omega) _).setCell (p := ⟨w.heap.size + 1, i * 3 + 2, none⟩) (show w.heap.size ≤ w.heap.size + 1 by omega) _⟩, by simp only [intOf]; omega⟩
      have h1 := ((HO.out.set (i * 3) (.int .i64 m.l)).set (i * 3 + 1) (.int .i64 m.r)).set (i * 3 + 2) (.int .i64 m.i)
      have h2 := fillM_set l m (i - l.length) (by omega)
      rw [show l.length + (i - l.length) = i by omega] at h2
      rw [cellsM_set, h2] at h1
      rw [show i + 1 - l.length = i - l.length + 1 by omega]
      exact h1
    · have hi80 : i = l.length + 80 := by omega
      subst hi80
      clear hown m0 m1 m2
      go_wp2_with fail
      go_ret
      exact ⟨_, by omega, rfl, hbr, by have := HO.out; rwa [Nat.add_sub_cancel_left] at this⟩
set_option maxHeartbeats 800000 in
/-- Of two slices that hold the same merges, Same says so. -/
theorem sameM_any (a b : Option Addr) (ca cb : Nat) (l : List Mg) (w : World) (hlen : l.length ≤ 9223372036854775807) (ha : MSP w a l) (hb : MSP w b l) :
    Calls Tryd.prog 47 #[.slice a l.length ca, .slice b l.length cb] w fun e w' => e = .returned (.bool true) ∧ Below w.heap.size w w' := by
  obtain ⟨n, hn⟩ : ∃ n, n = l.length := ⟨_, rfl⟩
  have HN : Hid (n = l.length) := hn
  rw [← hn] at hlen ⊢
  clear hn
  have hne : ((n : Int) != (n : Int)) = false := by simp
  go_enter Tryd.func47, Tryd.ntmps47
  go_wp2
  go_loopw [5] (fun i wr => ∃ k : Nat, k ≤ n ∧ i = .int .i64 k ∧ Below w.heap.size w wr) (fun i _ => n - (intOf i).toNat)
  case atStart => exact ⟨0, Nat.zero_le _, rfl, Below.refl _ _⟩
  case round =>
    obtain ⟨k, hk, rfl, hbr⟩ := hrel
    by_cases hlt : k < n
    · have hkl : k < l.length := by rw [← HN.out]; exact hlt
      have hnil : l ≠ [] := fun e => by rw [e] at hkl; simp at hkl
      rcases ha with h | ⟨ga, oa, rfl, ha⟩
      · exact absurd h hnil
      rcases hb with h | ⟨gb, ob, rfl, hb⟩
      · exact absurd h hnil
      obtain ⟨x, hx⟩ : ∃ x, l[k]? = some x := ⟨l[k], List.getElem?_eq_getElem hkl⟩
      obtain ⟨a0, a1, a2⟩ := (ha k x hx).below hbr
      obtain ⟨b0, b1, b2⟩ := (hb k x hx).below hbr
      have HE := eqIn_mg x x true (mgEq_self x)
      have HF := neq_mg x x false (by rw [mgEq_self]; rfl)
      clear ha hb hnil hkl hx
      go_wp2_with fail
      go_quiet (fail)
      go_wp2_with fail
      exact ⟨⟨k + 1, by omega, by go_num, below_drewN hbr nq⟩, by simp only [intOf]; omega⟩
    · have hkn : k = n := by omega
      subst hkn
      go_wp2_with fail
      go_ret
      exact ⟨rfl, hbr⟩
set_option maxHeartbeats 800000 in
/-- Of what Roomy made, and stayed, Intact is true. -/
theorem intactM_any (g : Nat) (a : Option Addr) (cap : Nat) (l : List Mg) (m : Mg) (w : World) (hlen : l.length ≤ 5864062014805) (hf : OwnPm w g (cellsM (fillM l m 80))) (h : MSP w a l) :
    Calls Tryd.prog 44 #[.slice (some ⟨g, 0, none⟩) (l.length + 80) (l.length + 80), .slice a l.length cap, mgV m] w fun e w' => e = .returned (.bool true) ∧ Below w.heap.size w w' := by
  have b0 := (Below.refl w.heap.size w).alloc (Nat.le_refl _) (.cells #[.int .i64 m.l, .int .i64 m.r, .int .i64 m.i] 36)
  have p0 := MgAt.new w m 36
  have hf0 := hf.below b0 hf.lt
  have hs : MSP w (some ⟨g, 0, none⟩) l := MSP.of_block hf
  have hsame := sameM_any (some ⟨g, 0, none⟩) a (l.length + 80) cap l (w.alloc (.cells #[.int .i64 m.l, .int .i64 m.r, .int .i64 m.i] 36)) (by omega) (hs.below b0) (h.below b0)
  have hne : (((l.length : Int) + 80) != ((l.length : Int) + 80)) = false := by simp
  have HE := eqIn_mg m m true (mgEq_self m)
  have HF := neq_mg m m false (by rw [mgEq_self]; rfl)
  clear hf h hs
  unfold mgV
  go_enter Tryd.func44, Tryd.ntmps44
  go_wp2_with fail
  refine hsame.mono ?_
  rintro e w1 ⟨rfl, hb1⟩
  have hf1 := hf0.below hb1 hf0.lt
  have p1 := p0.below hb1
  have B1 := b0.trans (hb1.mono b0.size)
  clear hsame hb1 hf0 p0 b0
  go_wp2_with fail
  go_loopw [7] (fun v wr => ∃ i : Nat, l.length ≤ i ∧ i ≤ l.length + 80 ∧ v = .int .i64 (i : Nat) ∧ Below w1.heap.size w1 wr) (fun v _ => 80 + l.length - (intOf v).toNat)
  case atStart => exact ⟨l.length, Nat.le_refl _, by omega, rfl, Below.refl _ _⟩
  case round =>
    obtain ⟨i, hi1, hi2, rfl, hbr⟩ := hrel
    by_cases hlt : i < l.length + 80
    · have hx := fillM_get l m 80 (i - l.length) (by omega)
      rw [show l.length + (i - l.length) = i by omega] at hx
      have c0 := (hf1.cell (i * 3)).trans (cellsM_get _ _ _ hx).1
      have c1 := (hf1.cell (i * 3 + 1)).trans (cellsM_get _ _ _ hx).2.1
      have c2 := (hf1.cell (i * 3 + 2)).trans (cellsM_get _ _ _ hx).2.2
      have c0 := (hbr.cell (World.block_lt_of_cell? w1 _ c0)).trans c0
      have c1 := (hbr.cell (World.block_lt_of_cell? w1 _ c1)).trans c1
      have c2 := (hbr.cell (World.block_lt_of_cell? w1 _ c2)).trans c2
      obtain ⟨m0, m1, m2⟩ := p1.below hbr
      rw [Nat.zero_add] at m1 m2
      have hd : decide ((i : Int) < (l.length : Int) + 80) = true := decide_eq_true (by omega)
      clear hx hf1
      go_wp2_with fail
      go_quiet (fail)
      go_wp2_with fail
      exact ⟨⟨i + 1, by omega, by omega, by go_num, below_drewN hbr nq⟩, by simp only [intOf]; omega⟩
    · have hi80 : i = l.length + 80 := by omega
      subst hi80
      go_wp2_with fail
      go_ret
      exact ⟨rfl, B1.trans (hbr.mono B1.size)⟩
end Go.Proofs.YtlnebbciefdpoaaDoor
