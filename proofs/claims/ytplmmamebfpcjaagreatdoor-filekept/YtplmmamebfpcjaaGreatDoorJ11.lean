import Derived.Test.YtplmmamebfpcjaaGreatDoorJ10
import Derived.Test.YtplmmamebfpcjaaGreatDoorJ4
import Derived.Test.YtplmmamebfpcjaaGreatDoorJ3
import Derived.Laws.StructEq
import Derived.Deep.AppendSrc
import Derived.Deep.QuietTactic
import Derived.BigQuiet
import Derived.Deep.RegionLaw
import Derived.Deep.DeepCutAuto
import Derived.Deep.LoopGhost
import Derived.WalkSpells
import Derived.WalkLawsBesides
import Derived.Test.YtplmmamebfpcjaaGreatDoorJ8
section
/- tesserabook.House: its contract. -/
namespace Go.Proofs.YtplmmamebfpcjaaGreatDoor
open Go.RowKit Go.Sort Go.Joins
def houA : List Sp := [⟨97, 122⟩, ⟨233, 233⟩]
def houB : List Sp := [⟨48, 57⟩]
def houC : List Sp := [⟨9, 10⟩, ⟨32, 32⟩]
def houW : List ByteArray := [⟨#[97, 98]⟩, ⟨#[32, 97]⟩, ⟨#[116, 104]⟩, ⟨#[116, 104, 101]⟩, ⟨#[104, 101]⟩, ⟨#[195, 169]⟩]
def houM : List Mg := [⟨97, 98, 256⟩, ⟨32, 97, 257⟩, ⟨116, 104, 258⟩, ⟨258, 101, 259⟩, ⟨104, 101, 260⟩, ⟨195, 169, 261⟩]
theorem WSP.new (w : World) (l : List ByteArray) (t : TypeId) : WSP (w.alloc (.cells (cellsW l).toArray t)) (some ⟨w.heap.size, 0, none⟩) l := by
  refine .inr ⟨w.heap.size, 0, rfl, fun i x hx => ?_⟩
  rw [cell_of_block (heap_alloc_new _ _), Nat.zero_add]
  simpa using cellsW_get hx
theorem WSP.at_new {X : World} {g : Nat} {l : List ByteArray} {t : TypeId} (hs : X.heap.size = g) : WSP (X.alloc (.cells (cellsW l).toArray t)) (some ⟨g, 0, none⟩) l := hs ▸ WSP.new X l t
theorem MSP.new (w : World) (l : List Mg) (t : TypeId) : MSP (w.alloc (.cells (cellsM l).toArray t)) (some ⟨w.heap.size, 0, none⟩) l := by
  refine .inr ⟨w.heap.size, 0, rfl, fun i x hx => ?_⟩
  obtain ⟨h0, h1, h2⟩ := cellsM_get l i x hx
  unfold MgAt
  rw [cell_of_block (heap_alloc_new _ _), cell_of_block (heap_alloc_new _ _), cell_of_block (heap_alloc_new _ _), Nat.zero_add]
  exact ⟨by simpa using h0, by simpa using h1, by simpa using h2⟩
theorem MSP.at_new {X : World} {g : Nat} {l : List Mg} {t : TypeId} (hs : X.heap.size = g) : MSP (X.alloc (.cells (cellsM l).toArray t)) (some ⟨g, 0, none⟩) l := hs ▸ MSP.new X l t
end Go.Proofs.YtplmmamebfpcjaaGreatDoor
end
section
/- model.Model.Merge, tesseraref5.Merge; Longest, Table: their contracts; what a model answers. -/
namespace Go.Proofs.YtplmmamebfpcjaaGreatDoor
open Go.RowKit Go.Sort Go.Joins Go.Maps Go.WideMaps
set_option linter.unusedVariables false
/-- What Merge answers. -/
def mrV (o : Option (Nat × Int)) : Value := .tuple #[.int .i64 ((o.map fun p => (p.1 : Int)).getD 0), .int .i64 ((o.map (·.2)).getD 0), .bool o.isSome]
def mergeM (ms : List Mg) (l r : Int) : Option (Nat × Int) := (rankM ms l r).bind fun k => (ms[k]?).map fun x => (k, x.i)
theorem rankM_get {ms : List Mg} {l r : Int} {k : Nat} (h : rankM ms l r = some k) : ∃ x, ms[k]? = some x ∧ pairB x l r = true ∧ ∀ (j : Nat) (y : Mg), j < k → ms[j]? = some y → pairB y l r = false := by
  unfold rankM at h
  obtain ⟨hk, h1, h2⟩ := List.findIdx?_eq_some_iff_getElem.1 h
  refine ⟨ms[k], List.getElem?_eq_getElem hk, h1, fun j y hj hy => ?_⟩
  obtain ⟨hjl, rfl⟩ := List.getElem?_eq_some_iff.1 hy
  simpa using h2 j hj
theorem rankM_none {ms : List Mg} {l r : Int} (h : rankM ms l r = none) : ∀ (j : Nat) (y : Mg), ms[j]? = some y → pairB y l r = false := by
  unfold rankM at h
  intro j y hy
  have := List.findIdx?_eq_none_iff.1 h y (List.mem_of_getElem? hy)
  simpa using this
theorem rankM_some {ms : List Mg} {l r : Int} {k : Nat} {x : Mg} (hx : ms[k]? = some x) (hp : pairB x l r = true) (hb : ∀ (j : Nat) (y : Mg), j < k → ms[j]? = some y → pairB y l r = false) : rankM ms l r = some k := by
  unfold rankM
  rw [List.findIdx?_eq_some_iff_getElem]
  obtain ⟨hk, rfl⟩ := List.getElem?_eq_some_iff.1 hx
  refine ⟨hk, hp, fun j hj => ?_⟩
  have := hb j _ hj (List.getElem?_eq_getElem (by omega))
  simp [this]
theorem rankM_nil {ms : List Mg} {l r : Int} (h : ∀ (j : Nat) (y : Mg), ms[j]? = some y → pairB y l r = false) : rankM ms l r = none := by
  unfold rankM
  rw [List.findIdx?_eq_none_iff]
  intro y hy
  obtain ⟨j, hj⟩ := List.mem_iff_getElem?.1 hy
  simpa using h j y hj
theorem ModelAt.word {w : World} {lo g : Nat} {ws : List ByteArray} {ms : List Mg} {A B C : List Sp} (h : ModelAt w lo g ws ms A B C) : ∃ a0 c0, w.cell? ⟨g, 0, none⟩ = some (.slice a0 ws.length c0) ∧ WSP w a0 ws := by
  obtain ⟨a0, c0, a1, c1, a2, c2, a3, c3, a4, c4, gt, gr, h1, h2, h3, h4, h5, h6⟩ := h
  exact ⟨a0, c0, cell_of_block h3 0, h4.words.row.sp⟩
theorem mword_any (g : Nat) (lo : Nat) (ws : List ByteArray) (ms : List Mg) (A B C : List Sp) (id : Int) (w : World) (hn : ws.length ≤ 4611686018427387904) (h : ModelAt w lo g ws ms A B C) :
    Calls Tryz.prog 99 #[.pointer (some ⟨g, 0, none⟩), .int .i64 id] w fun e w' => e = .returned (wdV (wordM ws id)) ∧ Below w.heap.size w w' := by
  obtain ⟨a0, c0, h1, h2⟩ := h.word
  exact word_any g c0 a0 ws id w hn h1 h2
theorem msize_any (g : Nat) (lo : Nat) (ws : List ByteArray) (ms : List Mg) (A B C : List Sp) (w : World) (hn : ws.length ≤ 4611686018427387904) (h : ModelAt w lo g ws ms A B C) :
    Calls Tryz.prog 30 #[.pointer (some ⟨g, 0, none⟩)] w fun e w' => e = .returned (.int .i64 (256 + (ws.length : Int))) ∧ w' = w := by
  obtain ⟨a0, c0, h1, h2⟩ := h.word
  exact size_any g ws.length c0 a0 w hn h1
set_option maxHeartbeats 400000 in
theorem mlongest_any (g : Nat) (lo : Nat) (ws : List ByteArray) (ms : List Mg) (A B C : List Sp) (w : World) (h : ModelAt w lo g ws ms A B C) :
    Calls Tryz.prog 20 #[.pointer (some ⟨g, 0, none⟩)] w fun e w' => e = .returned (.int .i64 (longM ws : Nat)) ∧ w' = w := by
  obtain ⟨a0, c0, a1, c1, a2, c2, a3, c3, a4, c4, gt, gr, h1, h2, h3, h4, h5, h6⟩ := h
  have x7 := cell_of_block h3 7
  clear h1 h2 h3 h4 h5 h6
  go_enter Tryz.func20, Tryz.ntmps20
  go_wp2_with fail
  go_ret
  exact ⟨rfl, rfl⟩
end Go.Proofs.YtplmmamebfpcjaaGreatDoor
end
section
/- tesserabook.Roomy, Same, Intact of words: their contracts. -/
namespace Go.Proofs.YtplmmamebfpcjaaGreatDoor
open Go.RowKit Go.Sort Go.Joins
/-- A block of words' cells. -/
def OwnPw (w : World) (g : Nat) (L : List Value) : Prop := w.heap[g]? = some (.cells L.toArray 9 (0, 0))
theorem OwnPw.below {w w' : World} {g : Nat} {L : List Value} {B : Nat} (h : OwnPw w g L) (hb : Below B w w') (hg : g < B) : OwnPw w' g L := by
  unfold OwnPw; rw [hb.block g hg]; exact h
theorem OwnPw.lt {w : World} {g : Nat} {L : List Value} (h : OwnPw w g L) : g < w.heap.size := (Array.getElem?_eq_some_iff.1 h).1
theorem OwnPw.cell {w : World} {g : Nat} {L : List Value} (h : OwnPw w g L) (j : Nat) : w.cell? ⟨g, j, none⟩ = L[j]? := by
  rw [cell_of_block h]; simp
theorem OwnPw.free {w : World} {g : Nat} {L : List Value} (h : OwnPw w g L) (j : Nat) : w.frozen? ⟨g, j, none⟩ = false := unfrozen_of_block h j
theorem OwnPw.set {w : World} {g : Nat} {L : List Value} (h : OwnPw w g L) (j : Nat) (v : Value) : OwnPw (w.setCell ⟨g, j, none⟩ v) g (L.set j v) := by
  have := block_setCell h (i := j) v
  unfold OwnPw; rw [this]; simp
theorem WSP.of_block {w : World} {g : Nat} {l r : List ByteArray} {t : TypeId} {fr : Nat × Nat} (h : w.heap[g]? = some (.cells (cellsW (l ++ r)).toArray t fr)) : WSP w (some ⟨g, 0, none⟩) l := by
  refine .inr ⟨g, 0, rfl, fun i x hx => ?_⟩
  have hx' : (l ++ r)[i]? = some x := by
    rw [List.getElem?_append_left (List.getElem?_eq_some_iff.1 hx).1]; exact hx
  have h0 := cellsW_get hx'
  rw [cell_of_block h, Nat.zero_add]
  simpa using h0
theorem cellsW_append (l r : List ByteArray) : cellsW (l ++ r) = cellsW l ++ cellsW r := by simp [cellsW]
theorem cellsW_set (l : List ByteArray) (i : Nat) (x : ByteArray) : (cellsW l).set i (.string x) = cellsW (l.set i x) := by simp [cellsW, List.map_set]
def fillW (l : List ByteArray) (m : ByteArray) (k : Nat) : List ByteArray := l ++ (List.replicate k m ++ List.replicate (80 - k) ⟨#[]⟩)
theorem fillW_set (l : List ByteArray) (m : ByteArray) (k : Nat) (h : k < 80) : (fillW l m k).set (l.length + k) m = fillW l m (k + 1) := by
  unfold fillW
  rw [List.set_append_right _ _ (by omega), Nat.add_sub_cancel_left, List.set_append_right _ _ (by simp)]
  simp only [List.length_replicate, Nat.sub_self]
  rw [show 80 - k = (80 - (k + 1)) + 1 from by omega, List.replicate_succ, List.set_cons_zero, List.replicate_succ', List.append_assoc]
  rfl
theorem fillW_length (l : List ByteArray) (m : ByteArray) (k : Nat) (h : k ≤ 80) : (fillW l m k).length = l.length + 80 := by
  simp [fillW]; omega
theorem fillW_get (l : List ByteArray) (m : ByteArray) (n k : Nat) (h : k < n) : (fillW l m n)[l.length + k]? = some m := by
  unfold fillW
  rw [List.getElem?_append_right (by omega), Nat.add_sub_cancel_left, List.getElem?_append_left (by simpa using h)]
  simp [h]
theorem fillW_start (l : List ByteArray) (m : ByteArray) : fillW l ⟨#[]⟩ 0 = fillW l m 0 := by simp [fillW]
theorem copy_cellsW (l : List ByteArray) : (cellsW (List.replicate (l.length + 80) ⟨#[]⟩)).take 0 ++ cellsW l ++ (cellsW (List.replicate (l.length + 80) ⟨#[]⟩)).drop (0 + (cellsW l).length) = cellsW (fillW l ⟨#[]⟩ 0) := by
  have h : cellsW (List.replicate (l.length + 80) ⟨#[]⟩) = cellsW (List.replicate l.length ⟨#[]⟩) ++ cellsW (List.replicate 80 ⟨#[]⟩) := by
    rw [← cellsW_append, List.replicate_append_replicate]
  rw [h, Nat.zero_add, List.drop_append_of_le_length (by rw [cellsW_length, cellsW_length]; simp), List.drop_of_length_le (by rw [cellsW_length, cellsW_length]; simp)]
  unfold fillW
  simp [cellsW_append]
theorem sizeW : (Tryz.prog.info? 9).map (·.size) = some 1 := by kernel_rfl
theorem madeW (n : Nat) : madeCells #[Value.string ⟨#[]⟩] (n * 1) = (cellsW (List.replicate n ⟨#[]⟩)).toArray := by
  have e : cellsW (List.replicate n ⟨#[]⟩) = List.replicate (n * 1) (.string ⟨#[]⟩) := by simp [cellsW]
  rw [e]
  apply Array.ext
  · simp [madeCells]
  · intro i h1 h2
    simp only [madeCells, Array.getElem_map, List.getElem_toArray, List.getElem_replicate]
    have : (Array.range (n * 1))[i]'(by simpa [madeCells] using h1) % #[Value.string ⟨#[]⟩].size < 1 := Nat.mod_lt _ (by decide)
    generalize (Array.range (n * 1))[i]'(by simpa [madeCells] using h1) % #[Value.string ⟨#[]⟩].size = j at this
    match j, this with
    | 0, _ => rfl
theorem copy_runW (W : World) (g : Nat) (a : Option Addr) (cap : Nat) (l : List ByteArray) (hO : OwnPw W g (cellsW (List.replicate (l.length + 80) ⟨#[]⟩))) (h : WSP W a l) :
    ∃ W1, (Builtin.copy_ #[22, 22] 3 #[.slice (some ⟨g, 0, none⟩) (l.length + 80) (l.length + 80), .slice a l.length cap]).run Tryz.prog W = .ok (.int .i64 (l.length : Int)) W1 ∧
      OwnPw W1 g (cellsW (fillW l ⟨#[]⟩ 0)) ∧ ∀ B w0, Below B w0 W → B ≤ g → Below B w0 W1 := by
  have nil : l = [] → ∃ W1, (Builtin.copy_ #[22, 22] 3 #[.slice (some ⟨g, 0, none⟩) (l.length + 80) (l.length + 80), .slice a l.length cap]).run Tryz.prog W = .ok (.int .i64 (l.length : Int)) W1 ∧
      OwnPw W1 g (cellsW (fillW l ⟨#[]⟩ 0)) ∧ ∀ B w0, Below B w0 W → B ≤ g → Below B w0 W1 := by
    rintro rfl
    refine ⟨W, ?_, by simpa [fillW] using hO, fun _ _ h _ => h⟩
    have hl : ∀ (x : Addr), (loadCells x 0).run Tryz.prog W = .ok #[] W := fun x => by simpa using run_loadCells_list (P := Tryz.prog) W x [] (by simp)
    cases hq : Tryz.prog.info? 9 with
    | none => have := sizeW; simp [hq] at this
    | some i =>
      cases a <;> simp [Builtin.copy_, run_underlying Tryz.underlying22, Builtin.lenOf, Builtin.firstCells, sizeOf, typeInfo, hq, storeCells, hl, goInt]
  rcases h with h | ⟨b, off, rfl, hc⟩
  · exact nil h
  · have hmin : Nat.min l.length (l.length + 80) = l.length := Nat.min_eq_left (by omega)
    have hr := run_copy_rowN (P := Tryz.prog) W 22 22 3 9 1 g 0 (l.length + 80) (l.length + 80) ⟨b, off, none⟩ l.length cap _ 9 (cellsW l) Tryz.underlying22 sizeW hO (by rw [hmin, cellsW_length])
      (WSP.cells (.inr ⟨b, off, rfl, hc⟩)) (by rw [List.size_toArray, cellsW_length, cellsW_length]; simp) (cellsW_one l)
    rw [hmin] at hr
    refine ⟨_, hr, ?_, fun B w0 hb hg => below_setRow hb hg _⟩
    have := setRow_heap W g (cellsW (List.replicate (l.length + 80) ⟨#[]⟩)).toArray ((cellsW (List.replicate (l.length + 80) ⟨#[]⟩)).take 0 ++ cellsW l ++ (cellsW (List.replicate (l.length + 80) ⟨#[]⟩)).drop (0 + (cellsW l).length)).toArray 9 (0, 0) hO
    rw [copy_cellsW] at this
    unfold OwnPw
    rw [← this]
    rw [copy_cellsW]
set_option maxHeartbeats 800000 in
/-- Of two slices that hold the same words, Same says so. -/
theorem sameW_any (a b : Option Addr) (ca cb : Nat) (l : List ByteArray) (w : World) (hlen : l.length ≤ 9223372036854775807) (ha : WSP w a l) (hb : WSP w b l) :
    Calls Tryz.prog 48 #[.slice a l.length ca, .slice b l.length cb] w fun e w' => e = .returned (.bool true) ∧ Below w.heap.size w w' := by
  obtain ⟨n, hn⟩ : ∃ n, n = l.length := ⟨_, rfl⟩
  have HN : Hid (n = l.length) := hn
  rw [← hn] at hlen ⊢
  clear hn
  have hne : ((n : Int) != (n : Int)) = false := by simp
  go_enter Tryz.func48, Tryz.ntmps48
  go_wp2
  go_loopw [5] (fun i wr => ∃ k : Nat, k ≤ n ∧ i = .int .i64 k ∧ Below w.heap.size w wr) (fun i _ => n - (intOf i).toNat)
  case atStart => exact ⟨0, Nat.zero_le _, rfl, Below.refl _ _⟩
  case round =>
    obtain ⟨k, hk, rfl, hbr⟩ := hrel
    by_cases hlt : k < n
    · have hkl : k < l.length := by rw [← HN.out]; exact hlt
      have hnil : l ≠ [] := fun e => by rw [e] at hkl; simp at hkl
      rcases ha with h | ⟨ga, oa, rfl, ha⟩
      · exact absurd h hnil
      rcases hb with h | ⟨gb, ob, rfl, hb⟩
      · exact absurd h hnil
      obtain ⟨x, hx⟩ : ∃ x, l[k]? = some x := ⟨l[k], List.getElem?_eq_getElem hkl⟩
      have a0 := (hbr.cell (World.block_lt_of_cell? w _ (ha k x hx))).trans (ha k x hx)
      have b0 := (hbr.cell (World.block_lt_of_cell? w _ (hb k x hx))).trans (hb k x hx)
      have HE : (x.toList == x.toList) = true := by simp
      have HF : (x.toList != x.toList) = false := by simp
      clear ha hb hnil hkl hx
      go_wp2_with fail
      go_quiet (fail)
      go_wp2_with fail
      exact ⟨⟨k + 1, by omega, by go_num, below_drewN hbr nq⟩, by simp only [intOf]; omega⟩
    · have hkn : k = n := by omega
      subst hkn
      go_wp2_with fail
      go_ret
      exact ⟨rfl, hbr⟩
end Go.Proofs.YtplmmamebfpcjaaGreatDoor
end
section
/- tesserabook.Roomy, Same, Intact of merges: their contracts. -/
namespace Go.Proofs.YtplmmamebfpcjaaGreatDoor
open Go.RowKit Go.Sort Go.Joins
theorem MgAt.new (w : World) (m : Mg) (t : TypeId) : MgAt (w.alloc (.cells #[.int .i64 m.l, .int .i64 m.r, .int .i64 m.i] t)) w.heap.size 0 m := ⟨by simp [go_sem], by simp [go_sem], by simp [go_sem]⟩
def gL : Field := Field.mk "Left" 3 0 false "" "" 0
def gR : Field := Field.mk "Right" 3 1 false "" "" 8
def gI : Field := Field.mk "Id" 3 2 false "" "" 16
theorem fieldsM : Tryz.prog.fieldsOf 75 = #[gL, gR, gI] := by kernel_rfl
theorem undM : Tryz.prog.underlying 75 = some (.struct #[gL, gR, gI]) := by kernel_rfl
theorem heldM : Tryz.prog.stoodInHeld 75 = false := by kernel_rfl
theorem guardM : Tryz.prog.eqGuardType Tryz.prog.depth 75 = false := by kernel_rfl
def mgEq (x y : Mg) : Bool := x.l == y.l && (x.r == y.r && x.i == y.i)
theorem mgEq_self (x : Mg) : mgEq x x = true := by simp [mgEq]
theorem equal_mg (a b c a' b' c' : Int) (W : World) : (Op.equalIn 10000 75 (.agg #[.int .i64 a, .int .i64 b, .int .i64 c]) (.agg #[.int .i64 a', .int .i64 b', .int .i64 c'])).run Tryz.prog W = .ok (a == a' && (b == b' && c == c')) W := by
  rw [run_equalIn_agg W 9999 75 _ _ (by rw [fieldsM]; exact undM) heldM, fieldsM]
  simp [go_sem, Op.eqFields, gL, gR, gI, part]
  by_cases h1 : a = a'
  · by_cases h2 : b = b'
    · by_cases h3 : c = c'
      · simp [h1, h2, h3]
      · simp [h1, h2, h3]
    · simp [h1, h2]
  · simp [h1]
theorem eql_mg (x y : Mg) (v : Bool) (h : mgEq x y = v) (W : World) : (binOp BinOp.eql 75 (.agg #[.int .i64 x.l, .int .i64 x.r, .int .i64 x.i]) (.agg #[.int .i64 y.l, .int .i64 y.r, .int .i64 y.i])).run Tryz.prog W = .ok (.bool v) W := by
  rw [run_eql_struct, equal_mg, ← h]
  rfl
theorem neq_mg (x y : Mg) (v : Bool) (h : (!mgEq x y) = v) (W : World) : (binOp BinOp.neq 75 (.agg #[.int .i64 x.l, .int .i64 x.r, .int .i64 x.i]) (.agg #[.int .i64 y.l, .int .i64 y.r, .int .i64 y.i])).run Tryz.prog W = .ok (.bool v) W := by
  rw [run_neq_struct, equal_mg, ← h]
  rfl
theorem eqIn_mg (x y : Mg) (v : Bool) (h : mgEq x y = v) (W : World) : (Op.equalIn 10000 75 (.agg #[.int .i64 x.l, .int .i64 x.r, .int .i64 x.i]) (.agg #[.int .i64 y.l, .int .i64 y.r, .int .i64 y.i])).run Tryz.prog W = .ok v W := by
  rw [equal_mg, ← h]
  rfl
/-- A block of merges' cells. -/
def OwnPm (w : World) (g : Nat) (L : List Value) : Prop := w.heap[g]? = some (.cells L.toArray 75 (0, 0))
theorem OwnPm.below {w w' : World} {g : Nat} {L : List Value} {B : Nat} (h : OwnPm w g L) (hb : Below B w w') (hg : g < B) : OwnPm w' g L := by
  unfold OwnPm; rw [hb.block g hg]; exact h
theorem OwnPm.lt {w : World} {g : Nat} {L : List Value} (h : OwnPm w g L) : g < w.heap.size := (Array.getElem?_eq_some_iff.1 h).1
theorem OwnPm.cell {w : World} {g : Nat} {L : List Value} (h : OwnPm w g L) (j : Nat) : w.cell? ⟨g, j, none⟩ = L[j]? := by
  rw [cell_of_block h]; simp
theorem OwnPm.free {w : World} {g : Nat} {L : List Value} (h : OwnPm w g L) (j : Nat) : w.frozen? ⟨g, j, none⟩ = false := unfrozen_of_block h j
theorem OwnPm.set {w : World} {g : Nat} {L : List Value} (h : OwnPm w g L) (j : Nat) (v : Value) : OwnPm (w.setCell ⟨g, j, none⟩ v) g (L.set j v) := by
  have := block_setCell h (i := j) v
  unfold OwnPm; rw [this]; simp
theorem MSP.of_block {w : World} {g : Nat} {l r : List Mg} {t : TypeId} {fr : Nat × Nat} (h : w.heap[g]? = some (.cells (cellsM (l ++ r)).toArray t fr)) : MSP w (some ⟨g, 0, none⟩) l := by
  refine .inr ⟨g, 0, rfl, fun i x hx => ?_⟩
  have hx' : (l ++ r)[i]? = some x := by
    rw [List.getElem?_append_left (List.getElem?_eq_some_iff.1 hx).1]; exact hx
  obtain ⟨h0, h1, h2⟩ := cellsM_get _ _ _ hx'
  unfold MgAt
  rw [cell_of_block h, cell_of_block h, cell_of_block h, Nat.zero_add]
  exact ⟨by simpa using h0, by simpa using h1, by simpa using h2⟩
theorem cellsM_append (l r : List Mg) : cellsM (l ++ r) = cellsM l ++ cellsM r := by simp [cellsM]
theorem cellsM_set (l : List Mg) (i : Nat) (x : Mg) : (((cellsM l).set (i * 3) (.int .i64 x.l)).set (i * 3 + 1) (.int .i64 x.r)).set (i * 3 + 2) (.int .i64 x.i) = cellsM (l.set i x) := by
  induction l generalizing i with
  | nil => simp [cellsM]
  | cons y l ih =>
    have e : ∀ z, cellsM (z :: l) = .int .i64 z.l :: .int .i64 z.r :: .int .i64 z.i :: cellsM l := fun z => rfl
    cases i with
    | zero => rfl
    | succ i =>
      have e2 : cellsM ((y :: l).set (i + 1) x) = .int .i64 y.l :: .int .i64 y.r :: .int .i64 y.i :: cellsM (l.set i x) := rfl
      rw [e2, e, ← ih i, show (i + 1) * 3 = i * 3 + 1 + 1 + 1 by omega]
      rfl
def fillM (l : List Mg) (m : Mg) (k : Nat) : List Mg := l ++ (List.replicate k m ++ List.replicate (80 - k) ⟨0, 0, 0⟩)
theorem fillM_set (l : List Mg) (m : Mg) (k : Nat) (h : k < 80) : (fillM l m k).set (l.length + k) m = fillM l m (k + 1) := by
  unfold fillM
  rw [List.set_append_right _ _ (by omega), Nat.add_sub_cancel_left, List.set_append_right _ _ (by simp)]
  simp only [List.length_replicate, Nat.sub_self]
  rw [show 80 - k = (80 - (k + 1)) + 1 from by omega, List.replicate_succ, List.set_cons_zero, List.replicate_succ', List.append_assoc]
  rfl
theorem fillM_length (l : List Mg) (m : Mg) (k : Nat) (h : k ≤ 80) : (fillM l m k).length = l.length + 80 := by
  simp [fillM]; omega
theorem fillM_get (l : List Mg) (m : Mg) (n k : Nat) (h : k < n) : (fillM l m n)[l.length + k]? = some m := by
  unfold fillM
  rw [List.getElem?_append_right (by omega), Nat.add_sub_cancel_left, List.getElem?_append_left (by simpa using h)]
  simp [h]
theorem fillM_start (l : List Mg) (m : Mg) : fillM l ⟨0, 0, 0⟩ 0 = fillM l m 0 := by simp [fillM]
theorem copy_cellsM (l : List Mg) : (cellsM (List.replicate (l.length + 80) ⟨0, 0, 0⟩)).take 0 ++ cellsM l ++ (cellsM (List.replicate (l.length + 80) ⟨0, 0, 0⟩)).drop (0 + (cellsM l).length) = cellsM (fillM l ⟨0, 0, 0⟩ 0) := by
  have h : cellsM (List.replicate (l.length + 80) ⟨0, 0, 0⟩) = cellsM (List.replicate l.length ⟨0, 0, 0⟩) ++ cellsM (List.replicate 80 ⟨0, 0, 0⟩) := by
    rw [← cellsM_append, List.replicate_append_replicate]
  rw [h, Nat.zero_add, List.drop_append_of_le_length (by rw [cellsM_length, cellsM_length]; simp), List.drop_of_length_le (by rw [cellsM_length, cellsM_length]; simp)]
  unfold fillM
  simp [cellsM_append]
theorem sizeM : (Tryz.prog.info? 75).map (·.size) = some 3 := by kernel_rfl
theorem madeMg (n : Nat) : madeCells #[Value.int .i64 0, Value.int .i64 0, Value.int .i64 0] (n * 3) = (cellsM (List.replicate n ⟨0, 0, 0⟩)).toArray := by
  have e : cellsM (List.replicate n ⟨0, 0, 0⟩) = List.replicate (n * 3) (.int .i64 0) := by
    induction n with
    | zero => rfl
    | succ n ih =>
      rw [List.replicate_succ, show cellsM (⟨0, 0, 0⟩ :: List.replicate n ⟨0, 0, 0⟩) = .int .i64 0 :: .int .i64 0 :: .int .i64 0 :: cellsM (List.replicate n ⟨0, 0, 0⟩) from rfl, ih, show (n + 1) * 3 = n * 3 + 1 + 1 + 1 by omega, List.replicate_succ, List.replicate_succ, List.replicate_succ]
  rw [e]
  apply Array.ext
  · simp [madeCells]
  · intro i h1 h2
    simp only [madeCells, Array.getElem_map, List.getElem_toArray, List.getElem_replicate]
    have : (Array.range (n * 3))[i]'(by simpa [madeCells] using h1) % #[Value.int .i64 0, Value.int .i64 0, Value.int .i64 0].size < 3 := Nat.mod_lt _ (by decide)
    generalize (Array.range (n * 3))[i]'(by simpa [madeCells] using h1) % #[Value.int .i64 0, Value.int .i64 0, Value.int .i64 0].size = j at this
    match j, this with
    | 0, _ => rfl
    | 1, _ => rfl
    | 2, _ => rfl
theorem copy_runM (W : World) (g : Nat) (a : Option Addr) (cap : Nat) (l : List Mg) (hO : OwnPm W g (cellsM (List.replicate (l.length + 80) ⟨0, 0, 0⟩))) (h : MSP W a l) :
    ∃ W1, (Builtin.copy_ #[23, 23] 3 #[.slice (some ⟨g, 0, none⟩) (l.length + 80) (l.length + 80), .slice a l.length cap]).run Tryz.prog W = .ok (.int .i64 (l.length : Int)) W1 ∧
      OwnPm W1 g (cellsM (fillM l ⟨0, 0, 0⟩ 0)) ∧ ∀ B w0, Below B w0 W → B ≤ g → Below B w0 W1 := by
  have nil : l = [] → ∃ W1, (Builtin.copy_ #[23, 23] 3 #[.slice (some ⟨g, 0, none⟩) (l.length + 80) (l.length + 80), .slice a l.length cap]).run Tryz.prog W = .ok (.int .i64 (l.length : Int)) W1 ∧
      OwnPm W1 g (cellsM (fillM l ⟨0, 0, 0⟩ 0)) ∧ ∀ B w0, Below B w0 W → B ≤ g → Below B w0 W1 := by
    rintro rfl
    refine ⟨W, ?_, by simpa [fillM] using hO, fun _ _ h _ => h⟩
    have hl : ∀ (x : Addr), (loadCells x 0).run Tryz.prog W = .ok #[] W := fun x => by simpa using run_loadCells_list (P := Tryz.prog) W x [] (by simp)
    cases hq : Tryz.prog.info? 75 with
    | none => have := sizeM; simp [hq] at this
    | some i =>
      cases a <;> simp [Builtin.copy_, run_underlying Tryz.underlying23, Builtin.lenOf, Builtin.firstCells, sizeOf, typeInfo, hq, storeCells, hl, goInt]
  rcases h with h | ⟨b, off, rfl, hc⟩
  · exact nil h
  · have hmin : Nat.min l.length (l.length + 80) = l.length := Nat.min_eq_left (by omega)
    have hr := run_copy_rowN (P := Tryz.prog) W 23 23 3 75 3 g 0 (l.length + 80) (l.length + 80) ⟨b, off, none⟩ l.length cap _ 75 (cellsM l) Tryz.underlying23 sizeM hO (by rw [hmin, cellsM_length])
      (MSP.cells (.inr ⟨b, off, rfl, hc⟩)) (by rw [List.size_toArray, cellsM_length, cellsM_length]; simp; omega) (cellsM_one l)
    rw [hmin] at hr
    refine ⟨_, hr, ?_, fun B w0 hb hg => below_setRow hb hg _⟩
    have := setRow_heap W g (cellsM (List.replicate (l.length + 80) ⟨0, 0, 0⟩)).toArray ((cellsM (List.replicate (l.length + 80) ⟨0, 0, 0⟩)).take 0 ++ cellsM l ++ (cellsM (List.replicate (l.length + 80) ⟨0, 0, 0⟩)).drop (0 + (cellsM l).length)).toArray 75 (0, 0) hO
    rw [copy_cellsM] at this
    unfold OwnPm
    rw [← this]
    rw [copy_cellsM]
theorem MgAt.other {w : World} {b off g : Nat} {x : Mg} (h : MgAt w b off x) (i j k : Nat) (u v y : Value) (hg : b ≠ g) : MgAt (((w.setCell ⟨g, i, none⟩ u).setCell ⟨g, j, none⟩ v).setCell ⟨g, k, none⟩ y) b off x := by
  have e : ∀ o, (((w.setCell ⟨g, i, none⟩ u).setCell ⟨g, j, none⟩ v).setCell ⟨g, k, none⟩ y).cell? ⟨b, o, none⟩ = w.cell? ⟨b, o, none⟩ := fun o => by
    rw [World.cell?_setCell_other _ _ _ _ (fun e => hg (by injection e with e; exact e.symm)), World.cell?_setCell_other _ _ _ _ (fun e => hg (by injection e with e; exact e.symm)), World.cell?_setCell_other _ _ _ _ (fun e => hg (by injection e with e; exact e.symm))]
  exact ⟨(e _).trans h.1, (e _).trans h.2.1, (e _).trans h.2.2⟩
set_option maxHeartbeats 800000 in
/-- Of two slices that hold the same merges, Same says so. -/
theorem sameM_any (a b : Option Addr) (ca cb : Nat) (l : List Mg) (w : World) (hlen : l.length ≤ 9223372036854775807) (ha : MSP w a l) (hb : MSP w b l) :
    Calls Tryz.prog 49 #[.slice a l.length ca, .slice b l.length cb] w fun e w' => e = .returned (.bool true) ∧ Below w.heap.size w w' := by
  obtain ⟨n, hn⟩ : ∃ n, n = l.length := ⟨_, rfl⟩
  have HN : Hid (n = l.length) := hn
  rw [← hn] at hlen ⊢
  clear hn
  have hne : ((n : Int) != (n : Int)) = false := by simp
  go_enter Tryz.func49, Tryz.ntmps49
  go_wp2
  go_loopw [5] (fun i wr => ∃ k : Nat, k ≤ n ∧ i = .int .i64 k ∧ Below w.heap.size w wr) (fun i _ => n - (intOf i).toNat)
  case atStart => exact ⟨0, Nat.zero_le _, rfl, Below.refl _ _⟩
  case round =>
    obtain ⟨k, hk, rfl, hbr⟩ := hrel
    by_cases hlt : k < n
    · have hkl : k < l.length := by rw [← HN.out]; exact hlt
      have hnil : l ≠ [] := fun e => by rw [e] at hkl; simp at hkl
      rcases ha with h | ⟨ga, oa, rfl, ha⟩
      · exact absurd h hnil
      rcases hb with h | ⟨gb, ob, rfl, hb⟩
      · exact absurd h hnil
      obtain ⟨x, hx⟩ : ∃ x, l[k]? = some x := ⟨l[k], List.getElem?_eq_getElem hkl⟩
      obtain ⟨a0, a1, a2⟩ := (ha k x hx).below hbr
      obtain ⟨b0, b1, b2⟩ := (hb k x hx).below hbr
      have HE := eqIn_mg x x true (mgEq_self x)
      have HF := neq_mg x x false (by rw [mgEq_self]; rfl)
      clear ha hb hnil hkl hx
      go_wp2_with fail
      go_quiet (fail)
      go_wp2_with fail
      exact ⟨⟨k + 1, by omega, by go_num, below_drewN hbr nq⟩, by simp only [intOf]; omega⟩
    · have hkn : k = n := by omega
      subst hkn
      go_wp2_with fail
      go_ret
      exact ⟨rfl, hbr⟩
end Go.Proofs.YtplmmamebfpcjaaGreatDoor
end
section
/- tesseralaw5.known; Model.Data; tesserakeep.Same: their contracts. -/
namespace Go.Proofs.YtplmmamebfpcjaaGreatDoor
open Go.RowKit Go.Sort Go.Joins
set_option linter.unusedVariables false
theorem hou_up : upB houW houM houA houB houC = true := by decide +kernel
theorem hou_wf : MWf houM := by
  intro i x hx
  have hi : i < 6 := (List.getElem?_eq_some_iff.1 hx).1
  unfold W64
  rcases (show i = 0 ∨ i = 1 ∨ i = 2 ∨ i = 3 ∨ i = 4 ∨ i = 5 by omega) with rfl | rfl | rfl | rfl | rfl | rfl <;>
    (simp [houM] at hx; subst hx; decide)
/-- Of a model that is right: sizes. -/
structure MOk (ws : List ByteArray) (ms : List Mg) (A B C : List Sp) : Prop where
  m4 : ms.length ≤ 4096
  nm : ws.length = ms.length
  la : A.length ≤ 512
  lb : B.length ≤ 512
  lc : C.length ≤ 512
  words : WRgt ws
  cuts : ∀ j, j < ms.length → badM ws ms j = 0
  cls : (checkA A B C).1 = 0
theorem checkD_ok {ws : List ByteArray} {ms : List Mg} {A B C : List Sp} (h : (checkD ws ms A B C).1 = 0) : MOk ws ms A B C := by
  unfold checkD at h
  by_cases h1 : 4096 < ms.length
  · rw [if_pos h1] at h; cases h
  · rw [if_neg h1] at h
    by_cases h2 : ws.length ≠ ms.length
    · rw [if_pos h2] at h; cases h
    · rw [if_neg h2] at h
      by_cases h3 : (checkA A B C).1 ≠ 0
      · rw [if_pos h3] at h; exact absurd h h3
      · rw [if_neg h3] at h
        have h3 : (checkA A B C).1 = 0 := by simpa using h3
        by_cases h4 : (firstBad (badW ws) ws.length).1 ≠ 0
        · rw [if_pos h4] at h; exact absurd h h4
        · rw [if_neg h4] at h
          by_cases h5 : (firstBad (badM ws ms) ms.length).1 ≠ 0
          · rw [if_pos h5] at h; exact absurd h h5
          · have hl := (check_pass h3).1.len (by omega)
            exact ⟨by omega, by simpa using h2, hl.1, hl.2.1, hl.2.2, firstBad_zero (by simpa using h4), firstBad_zero (by simpa using h5), h3⟩
theorem upB_ok {ws : List ByteArray} {ms : List Mg} {A B C : List Sp} (h : upB ws ms A B C = true) : MOk ws ms A B C := by
  unfold upB at h
  simp only [Bool.and_eq_true, decide_eq_true_eq] at h
  exact checkD_ok h.2
theorem upB_few {ws : List ByteArray} {ms : List Mg} {A B C : List Sp} (h : upB ws ms A B C = true) : ms.length ≤ 300 := by
  have h0 := upB_ok h
  unfold upB largeB at h
  simp only [Bool.and_eq_true, Bool.not_eq_true', Bool.and_eq_false_iff, decide_eq_false_iff_not] at h
  have := h0.m4
  omega
set_option maxRecDepth 100000 in
set_option maxHeartbeats 1000000 in
theorem data_any (g lo : Nat) (ws : List ByteArray) (ms : List Mg) (A B C : List Sp) (w : World) (hk : MOk ws ms A B C) (h : ModelAt w lo g ws ms A B C) :
    Calls Tryz.prog 19 #[.pointer (some ⟨g, 0, none⟩)] w fun e w' => ∃ a0 c0 a1 c1 a2 c2 a3 c3 a4 c4, e = .returned (.agg #[.slice a0 ws.length c0, .slice a1 ms.length c1, .slice a2 A.length c2, .slice a3 B.length c3, .slice a4 C.length c4]) ∧ OwnD w' w.heap.size a0 c0 a1 c1 a2 c2 a3 c3 a4 c4 ws ms A B C ∧ Below w.heap.size w w' := by
  obtain ⟨a0, c0, a1, c1, a2, c2, a3, c3, a4, c4, gt, gr, h1, h2, h3, h4, h5, h6⟩ := h
  have ba := box_below w (.cells #[.slice none 0 0, .slice none 0 0, .slice none 0 0, .slice none 0 0, .slice none 0 0] 26)
  have hN := Blk.new w (.cells #[.slice none 0 0, .slice none 0 0, .slice none 0 0, .slice none 0 0, .slice none 0 0] 26)
  have h3' := (ba.block g (Array.getElem?_eq_some_iff.1 h3).1).trans h3
  have h4' := h4.below ba
  obtain ⟨s3, s4, q1, q2, o2, u2, o3, u3, o4⟩ := h4'.spans
  have hc := copied_any a0 a1 a2 a3 a4 c0 c1 c2 c3 c4 ws ms A B C (w.alloc (.cells #[.slice none 0 0, .slice none 0 0, .slice none 0 0, .slice none 0 0, .slice none 0 0] 26)) (by have := hk.m4; have := hk.nm; omega) (by have := hk.m4; omega) (by have := hk.la; omega) (by have := hk.lb; omega) (by have := hk.lc; omega) (fun i x hx => (hk.words.size hx).2) h4'.words.row.sp h4'.merges.row.sp o2.row.sp o3.row.sp o4.row.sp
  have x0 := cell_of_block h3' 0
  have x1 := cell_of_block h3' 1
  have x2 := cell_of_block h3' 2
  have x3 := cell_of_block h3' 3
  have x4 := cell_of_block h3' 4
  have hsz : (w.alloc (.cells #[.slice none 0 0, .slice none 0 0, .slice none 0 0, .slice none 0 0, .slice none 0 0] 26)).heap.size = w.heap.size + 1 := by simp
  clear h1 h2 h3 h4 h5 h6 h3' h4' q1 q2 o2 u2 o3 u3 o4
  go_enter Tryz.func19, Tryz.ntmps19
  go_wp2_with fail
  refine hc.mono ?_
  rintro e w1 ⟨b0, k0, b1, k1, b2, k2, b3, k3, b4, k4, rfl, hO, hb1⟩
  have hN1 := hN.up hb1
  have f0 := fun j => hN1.free j
  have y0 := hN1.cell 0
  have y1 := hN1.cell 1
  have y2 := hN1.cell 2
  have y3 := hN1.cell 3
  have y4 := hN1.cell 4
  have B1 := ba.trans (hb1.mono ba.size)
  rw [hsz] at hO
  have HO : Hid (OwnD w1 (w.heap.size + 1) b0 k0 b1 k1 b2 k2 b3 k3 b4 k4 ws ms A B C) := hO
  have HN1 : Hid (w1.heap[w.heap.size]? = _) := hN1
  clear hc x0 x1 x2 x3 x4 hN ba hb1 hsz hO hN1
  go_wp2_with fail
  have hX : DBox w1 w.heap.size _ _ _ _ _ := HN1.out
  have hY := ((((hX.s0 (.slice b0 ws.length k0)).s1 (.slice b1 ms.length k1)).s2 (.slice b2 A.length k2)).s3 (.slice b3 B.length k3)).s4 (.slice b4 C.length k4)
  have hO2 := ((((HO.out.away (b := w.heap.size) (o := 0) (by omega) (.slice b0 ws.length k0)).away (b := w.heap.size) (o := 1) (by omega) (.slice b1 ms.length k1)).away (b := w.heap.size) (o := 2) (by omega) (.slice b2 A.length k2)).away (b := w.heap.size) (o := 3) (by omega) (.slice b3 B.length k3)).away (b := w.heap.size) (o := 4) (by omega) (.slice b4 C.length k4)
  have B2 := ((((B1.setCell (p := ⟨w.heap.size, 0, none⟩) (Nat.le_refl _) (.slice b0 ws.length k0)).setCell (p := ⟨w.heap.size, 1, none⟩) (Nat.le_refl _) (.slice b1 ms.length k1)).setCell (p := ⟨w.heap.size, 2, none⟩) (Nat.le_refl _) (.slice b2 A.length k2)).setCell (p := ⟨w.heap.size, 3, none⟩) (Nat.le_refl _) (.slice b3 B.length k3)).setCell (p := ⟨w.heap.size, 4, none⟩) (Nat.le_refl _) (.slice b4 C.length k4)
  have z0 := hY.c0
  have z1 := hY.c1
  have z2 := hY.c2
  have z3 := hY.c3
  have z4 := hY.c4
  exact bodyPost_ret (v := .agg #[.slice b0 ws.length k0, .slice b1 ms.length k1, .slice b2 A.length k2, .slice b3 B.length k3, .slice b4 C.length k4]) (by simp [results, Tryz.results19, go_sem, z0, z1, z2, z3, z4]) rfl ⟨_, _, _, _, _, _, _, _, _, _, rfl, hO2.low (by omega), B2⟩
set_option maxRecDepth 100000 in
set_option maxHeartbeats 2000000 in
theorem keepSame_any (a0 a1 a2 a3 a4 b0 b1 b2 b3 b4 : Option Addr) (c0 c1 c2 c3 c4 d0 d1 d2 d3 d4 : Nat) (ws : List ByteArray) (ms : List Mg) (A B C : List Sp) (w : World) (hn : ws.length ≤ 4611686018427387904 ∧ ms.length ≤ 4611686018427387904 ∧ A.length ≤ 4611686018427387904 ∧ B.length ≤ 4611686018427387904 ∧ C.length ≤ 4611686018427387904)
    (h0 : WSP w a0 ws) (h1 : MSP w a1 ms) (h2 : SPS w a2 A) (h3 : SPS w a3 B) (h4 : SPS w a4 C) (k0 : WSP w b0 ws) (k1 : MSP w b1 ms) (k2 : SPS w b2 A) (k3 : SPS w b3 B) (k4 : SPS w b4 C) :
    Calls Tryz.prog 18 #[.agg #[.slice a0 ws.length c0, .slice a1 ms.length c1, .slice a2 A.length c2, .slice a3 B.length c3, .slice a4 C.length c4], .agg #[.slice b0 ws.length d0, .slice b1 ms.length d1, .slice b2 A.length d2, .slice b3 B.length d3, .slice b4 C.length d4]] w fun e w' => e = .returned (.bool true) ∧ Below w.heap.size w w' := by
  have hX := DBox.new w (.slice a0 ws.length c0) (.slice a1 ms.length c1) (.slice a2 A.length c2) (.slice a3 B.length c3) (.slice a4 C.length c4)
  have bX := box_below w (.cells #[.slice a0 ws.length c0, .slice a1 ms.length c1, .slice a2 A.length c2, .slice a3 B.length c3, .slice a4 C.length c4] 26)
  obtain ⟨X, eX⟩ : ∃ X, X = w.alloc (.cells #[.slice a0 ws.length c0, .slice a1 ms.length c1, .slice a2 A.length c2, .slice a3 B.length c3, .slice a4 C.length c4] 26) := ⟨_, rfl⟩
  have sX : X.heap.size = w.heap.size + 1 := by rw [eX]; simp
  rw [← eX] at hX bX
  have hY := DBox.new X (.slice b0 ws.length d0) (.slice b1 ms.length d1) (.slice b2 A.length d2) (.slice b3 B.length d3) (.slice b4 C.length d4)
  have bY := box_below X (.cells #[.slice b0 ws.length d0, .slice b1 ms.length d1, .slice b2 A.length d2, .slice b3 B.length d3, .slice b4 C.length d4] 26)
  have hX2 := hX.below bY hX.lt
  have bZ := bX.trans (bY.mono bX.size)
  rw [sX] at hY
  obtain ⟨Y, eY⟩ : ∃ Y, Y = X.alloc (.cells #[.slice b0 ws.length d0, .slice b1 ms.length d1, .slice b2 A.length d2, .slice b3 B.length d3, .slice b4 C.length d4] 26) := ⟨_, rfl⟩
  rw [← eY] at hY bY hX2 bZ
  have e2 : (w.alloc (.cells #[.slice a0 ws.length c0, .slice a1 ms.length c1, .slice a2 A.length c2, .slice a3 B.length c3, .slice a4 C.length c4] 26)).alloc (.cells #[.slice b0 ws.length d0, .slice b1 ms.length d1, .slice b2 A.length d2, .slice b3 B.length d3, .slice b4 C.length d4] 26) = Y := by rw [eY, eX]
  have E2 : Hid (_ = Y) := e2
  have HX : Hid (DBox Y w.heap.size (.slice a0 ws.length c0) (.slice a1 ms.length c1) (.slice a2 A.length c2) (.slice a3 B.length c3) (.slice a4 C.length c4)) := hX2
  have HY : Hid (DBox Y (w.heap.size + 1) (.slice b0 ws.length d0) (.slice b1 ms.length d1) (.slice b2 A.length d2) (.slice b3 B.length d3) (.slice b4 C.length d4)) := hY
  have S0 := fun wx (hb : Below w.heap.size w wx) => sameW_any a0 b0 c0 d0 ws wx (by omega) (h0.below hb) (k0.below hb)
  have S1 := fun wx (hb : Below w.heap.size w wx) => sameM_any a1 b1 c1 d1 ms wx (by omega) (h1.below hb) (k1.below hb)
  have S2 := fun wx (hb : Below w.heap.size w wx) => same_any a2 b2 c2 d2 A wx (by omega) (h2.below hb) (k2.below hb)
  have S3 := fun wx (hb : Below w.heap.size w wx) => same_any a3 b3 c3 d3 B wx (by omega) (h3.below hb) (k3.below hb)
  have S4 := fun wx (hb : Below w.heap.size w wx) => same_any a4 b4 c4 d4 C wx (by omega) (h4.below hb) (k4.below hb)
  have u0 := cell_alloc_s hX.c0
  have u1 := cell_alloc_s hX.c1
  clear u0 u1 h0 h1 h2 h3 h4 k0 k1 k2 k3 k4 hX bX bY eY eX e2 hX2 hY sX
  go_enter Tryz.func18, Tryz.ntmps18
  go_wp2_with fail
  rw [E2.out]
  clear E2
  have go : ∀ wx, Below Y.heap.size Y wx → DBox wx w.heap.size (.slice a0 ws.length c0) (.slice a1 ms.length c1) (.slice a2 A.length c2) (.slice a3 B.length c3) (.slice a4 C.length c4) ∧ DBox wx (w.heap.size + 1) (.slice b0 ws.length d0) (.slice b1 ms.length d1) (.slice b2 A.length d2) (.slice b3 B.length d3) (.slice b4 C.length d4) := fun wx hb => ⟨HX.out.below hb HX.out.lt, HY.out.below hb HY.out.lt⟩
  have GO : Hid (∀ wx, Below Y.heap.size Y wx → DBox wx w.heap.size (.slice a0 ws.length c0) (.slice a1 ms.length c1) (.slice a2 A.length c2) (.slice a3 B.length c3) (.slice a4 C.length c4) ∧ DBox wx (w.heap.size + 1) (.slice b0 ws.length d0) (.slice b1 ms.length d1) (.slice b2 A.length d2) (.slice b3 B.length d3) (.slice b4 C.length d4)) := go
  clear go
  refine (S0 Y bZ).mono ?_
  rintro e w1 ⟨rfl, hb1⟩
  have B1 := hb1
  have t1 := (GO.out w1 B1).1.c1
  have t2 := (GO.out w1 B1).2.c1
  clear S0 hb1
  go_wp2_with fail
  refine (S1 w1 (bZ.trans (B1.mono bZ.size))).mono ?_
  rintro e w2 ⟨rfl, hb2⟩
  have B2 := B1.trans (hb2.mono B1.size)
  clear t1 t2 S1 hb2 B1
  have t1 := (GO.out w2 B2).1.c2
  have t2 := (GO.out w2 B2).2.c2
  go_wp2_with fail
  refine (S2 w2 (bZ.trans (B2.mono bZ.size))).mono ?_
  rintro e w3 ⟨rfl, hb3⟩
  have B3 := B2.trans (hb3.mono B2.size)
  clear t1 t2 S2 hb3 B2
  have t1 := (GO.out w3 B3).1.c3
  have t2 := (GO.out w3 B3).2.c3
  go_wp2_with fail
  refine (S3 w3 (bZ.trans (B3.mono bZ.size))).mono ?_
  rintro e w4 ⟨rfl, hb4⟩
  have B4 := B3.trans (hb4.mono B3.size)
  clear t1 t2 S3 hb4 B3
  have t1 := (GO.out w4 B4).1.c4
  have t2 := (GO.out w4 B4).2.c4
  go_wp2_with fail
  refine (S4 w4 (bZ.trans (B4.mono bZ.size))).mono ?_
  rintro e w5 ⟨rfl, hb5⟩
  have B5 := B4.trans (hb5.mono B4.size)
  clear t1 t2 S4 hb5 B4
  go_wp2_with fail
  go_ret
  exact ⟨rfl, bZ.trans (B5.mono bZ.size)⟩
end Go.Proofs.YtplmmamebfpcjaaGreatDoor
end
section
/- Books of memory: what all kinds share: blocks that have turned, blocks by type, a value's block if it has room. -/
namespace Go.Proofs.YtplmmamebfpcjaaGreatDoor
open Go.RowKit Go.Sort
open Go.Joins
/-- No block but those of S has turned. -/
structure Only (w w' : World) (S : Nat → Prop) : Prop where
  os : w'.os = w.os
  tape : w'.tape = w.tape
  output : w'.output = w.output
  size : w.heap.size ≤ w'.heap.size
  block : ∀ k, k < w.heap.size → ¬ S k → w'.heap[k]? = w.heap[k]?
theorem Only.refl (w : World) (S : Nat → Prop) : Only w w S := ⟨rfl, rfl, rfl, Nat.le_refl _, fun _ _ _ => rfl⟩
theorem Only.trans {a b c : World} {S S1 : Nat → Prop} (h : Only a b S) (k : Only b c S1) (hs : ∀ i, i < a.heap.size → S1 i → S i) : Only a c S :=
  ⟨k.os.trans h.os, k.tape.trans h.tape, k.output.trans h.output, Nat.le_trans h.size k.size, fun i hi hn =>
    (k.block i (Nat.lt_of_lt_of_le hi h.size) (fun h1 => hn (hs i hi h1))).trans (h.block i hi hn)⟩
theorem Only.wider {w w' : World} {S T : Nat → Prop} (h : Only w w' S) (hs : ∀ i, i < w.heap.size → S i → T i) : Only w w' T := ⟨h.os, h.tape, h.output, h.size, fun k hk hn => h.block k hk (fun h1 => hn (hs k hk h1))⟩
theorem Only.below {w w' : World} {S : Nat → Prop} {base : Nat} (h : Only w w' S) (hS : ∀ i, S i → base ≤ i) (hb : base ≤ w.heap.size) : Below base w w' :=
  ⟨h.os, h.tape, h.output, h.size, fun k hk => h.block k (by omega) (fun h1 => by have := hS k h1; omega)⟩
theorem Only.ofGrown {w w' : World} {S : Nat → Prop} {row : Option Nat} (h : w.grownBy w' row) (hS : ∀ i, row = some i → S i) : Only w w' S :=
  ⟨h.os, h.tape, h.output, h.size, fun k hk hn => h.block k hk (fun e => hn (hS k e.symm))⟩
theorem Only.ofBelow {w w' : World} {S : Nat → Prop} (h : Below w.heap.size w w') : Only w w' S := ⟨h.os, h.tape, h.output, h.size, fun k hk _ => h.block k hk⟩
theorem Only.alloc (w : World) (S : Nat → Prop) (o : Obj) : Only w (w.alloc o) S := ⟨rfl, rfl, rfl, by simp, fun k hk _ => Below.heap_alloc _ _ _ hk⟩
theorem Only.set {w : World} {S : Nat → Prop} (b o : Nat) (v : Value) (h : S b) : Only w (w.setCell ⟨b, o, none⟩ v) S :=
  ⟨rfl, rfl, rfl, by simp [World.setCell], fun k _ hn => Below.heap_setCell _ _ _ _ (by intro e; exact hn (by rw [e]; exact h))⟩
theorem Only.drewN {w w' : World} {S : Nat → Prop} (h : Only w w' S) (k : Nat) : Only w (w'.drewN k) S := ⟨h.os, h.tape, h.output, h.size, h.block⟩
/-- The same memory, whatever has been drawn. -/
structure Like (w w' : World) : Prop where
  heap : w'.heap = w.heap
  os : w'.os = w.os
  tape : w'.tape = w.tape
  output : w'.output = w.output
theorem Like.refl (w : World) : Like w w := ⟨rfl, rfl, rfl, rfl⟩
theorem Like.drew {w w' : World} (h : Like w w') : Like w w'.drew := ⟨h.heap, h.os, h.tape, h.output⟩
theorem Like.only {w w' : World} (h : Like w w') (S : Nat → Prop) : Only w w' S := ⟨h.os, h.tape, h.output, by rw [h.heap]; exact Nat.le_refl _, fun k _ _ => by rw [h.heap]⟩
/-- Two blocks of unlike types are two. -/
theorem apart_types {w : World} {g g' : Nat} {c c' : Array Value} {t t' : TypeId} {f f' : Nat × Nat} (h : w.heap[g]? = some (.cells c t f)) (h' : w.heap[g']? = some (.cells c' t' f')) (ht : t ≠ t') : g ≠ g' := by
  intro e; subst e; rw [h] at h'; simp at h'; exact ht h'.2.1
/-- A value's block, if it has room in it. -/
def ob : Value → Option Nat
  | .slice (some a) _ c => if c = 0 then none else some a.block
  | _ => none
theorem ob_some {a : Addr} {n c : Nat} (h : 0 < c) : ob (.slice (some a) n c) = some a.block := if_neg (by omega)
theorem ob_zero {a : Option Addr} {n : Nat} : ob (.slice a n 0) = none := by cases a <;> rfl
/-- The block is of that type. -/
def TyB (w : World) (t : TypeId) (k : Nat) : Prop := ∃ cur, w.heap[k]? = some (.cells cur t (0, 0))
theorem TyB.ne {w : World} {t t' : TypeId} {k k' : Nat} (h : TyB w t k) (h' : TyB w t' k') (ht : t ≠ t') : k ≠ k' := by
  obtain ⟨c, h⟩ := h
  obtain ⟨c', h'⟩ := h'
  exact apart_types h h' ht
/-- append, as one step of a region that draws, by what its run leaves. -/
theorem step_append_ex {P : Program} {ops : Array Oper} {o : Oper} {a : Act} {w : World} {K : Act → World → Prop} {Q : Exit → Act → World → Prop} {E : Prop}
    (hg : o.guard = none) (s x : Operand) (t tx : TypeId) (hop : o.op = Op.call { callee := Callee.builtin Builtin.append, args := #[s, x], argTypes := #[t, tx] }) (v y : Value) (hs : a.eval s = v) (hx : a.eval x = y) (R : Value → World → Prop)
    (hr : ∃ v' w', (Builtin.append_ #[t, tx] o.type #[v, y]).run P w = .ok v' w' ∧ R v' w') (hK : ∀ v' w', R v' w' → K (a.put o.dst v') w') :
    if Region.wanted o (yielded ops a.tmps) = true then Oper.wp P o a w K Q else E := by
  have hw : Region.wanted o (yielded ops a.tmps) = true := by simp [Region.wanted, hg]
  rw [if_pos hw]
  obtain ⟨v', w', hrun, hR⟩ := hr
  unfold Oper.wp
  simp [execOp, hop, resolve, invoke, builtin, hs, hx, hrun, Result.andThen]
  exact hK v' w' hR
end Go.Proofs.YtplmmamebfpcjaaGreatDoor
end
section
/- RMono's law once more, for a tail that waits for the head through the head itself. -/
namespace Go.Proofs.YtplmmamebfpcjaaGreatDoor
open Go.RowKit
section
variable {P : Program} {ops : Array Oper} {md : Region.Mode}
/-- What lies behind the head waits for it: itself, or through what it waits for. -/
def tailB2 (md : Region.Mode) (ops : Array Oper) (n k : Nat) : Bool :=
  (List.range ops.size).all fun t => decide (t < k) || ((List.range n).all fun i => Region.waitsFor md ops t i || (List.range n).any fun j => decide (i < j) && Region.waitsFor md ops j i) || (List.range t).any fun j => decide (k ≤ j) && Region.waitsFor md ops t j
def monoB2 (md : Region.Mode) (ops : Array Oper) (n k : Nat) (ds : List Nat) : Bool :=
  decide (ds.length = n) && decide (n ≤ k) && decide (k ≤ ops.size) && tailB2 md ops n k &&
  Region.seqB md ops (ops.size - k) k (Array.replicate k true ++ Array.replicate (ops.size - k) false) && nodupB ds &&
  ((List.range n).all fun i => match ops[i]? with
    | some o => (depsOf md o).all (fun j => decide (j < i)) && decide (o.dst = ds[i]?)
    | none => false)
structure MInv2 (md : Region.Mode) (ops : Array Oper) (n k : Nat) (T : List (Value → World → Prop)) (ds : List Nat) (a0 : Act) (W : World) (listed : Array Bool) (a : Act) (w : World) : Prop where
  size : listed.size = ops.size
  pre : ∀ t, n ≤ t → t < k → listed.getD t false = true
  tail : ∀ t, k ≤ t → t < ops.size → listed.getD t true = false
  bel : Below W.heap.size W w
  frame : FrameEq ds a0 a
  rows : ∀ (i : Nat), i < n → listed.getD i false = true → rowAt T ds i a w
  closed : ∀ (i : Nat) (o : Oper), i < n → listed.getD i false = true → ops[i]? = some o → ∀ e ∈ o.after, Region.binds md e = true → listed.getD e.on false = true
theorem wpAny_mono2 {n k : Nat} {T : List (Value → World → Prop)} {ds : List Nat} {a0 : Act} {W : World} {l : List Oper} {Q : Exit → Act → World → Prop} (hl : l.toArray = ops) (hT : T.length = n) (hB : monoB2 md ops n k ds = true)
    (hin0 : ∀ d ∈ ds, d < a0.tmps.size) (hst : ∀ φ ∈ T, ∀ v w w', Below w.heap.size w w' → φ v w → φ v w') (hs : stepsM P md ops T ds a0 W T l)
    (hf : ∀ a, FrameEq ds a0 a → ∀ w, Below W.heap.size W w → (∀ (i : Nat), rowAt T ds i a w) → wpList P ops Q (l.drop k) a w) :
    ∀ (m : Nat) (listed : Array Bool) (a : Act) (w : World), cntU n listed = m → MInv2 md ops n k T ds a0 W listed a w → wpAny P md ops Q (m + (ops.size - k)) listed a w := by
  unfold monoB2 at hB
  simp only [Bool.and_eq_true, decide_eq_true_eq] at hB
  obtain ⟨⟨⟨⟨⟨⟨hlen, hnk⟩, hk⟩, htail⟩, hseq⟩, hnd⟩, hops⟩ := hB
  have hn : n ≤ ops.size := Nat.le_trans hnk hk
  have hlsz : l.length = ops.size := by rw [← hl]; simp
  intro m
  induction m with
  | zero =>
    intro listed a w hc inv
    have hall := cntU_zero n listed hc
    have hli : listed = Array.replicate k true ++ Array.replicate (ops.size - k) false := by
      refine Array.ext (by rw [inv.size]; simp; omega) fun i h1 h2 => ?_
      have hi : i < ops.size := by rw [← inv.size]; exact h1
      by_cases hik : i < k
      · have : listed.getD i false = true := by
          by_cases hin : i < n
          · exact hall i hin
          · exact inv.pre i (by omega) hik
        rw [Array.getElem_append_left (by simpa using hik)]
        simp [h1] at this
        simp [this]
      · have := inv.tail i (by omega) hi
        rw [Array.getElem_append_right (by simp; omega)]
        simp [h1] at this
        simp [this]
    rw [Nat.zero_add]
    have := wpAny_of_seq (P := P) (md := md) (ops := ops) (Q' := Q) (l.drop k) k listed a w (fun j => by rw [← hl]; simp) (by
      rw [List.length_drop, hlsz, hli]; exact hseq) (hf a inv.frame w inv.bel fun i φ d hr hd => by
        have hin : i < n := by
          have := (List.getElem?_eq_some_iff.1 hr).1
          omega
        exact inv.rows i hin (hall i hin) φ d hr hd)
    rwa [List.length_drop, hlsz] at this
  | succ m ih =>
    intro listed a w hc inv
    rw [show m + 1 + (ops.size - k) = (m + (ops.size - k)) + 1 by omega]
    refine ⟨fun h0 => ?_, fun i hi => ?_⟩
    · exfalso
      obtain ⟨i, h1, h2, h3⟩ := cntU_pos n listed (by omega)
      have hio := List.all_eq_true.1 hops i (List.mem_range.2 h1)
      obtain ⟨o, ho⟩ : ∃ o, ops[i]? = some o := ⟨_, Array.getElem?_eq_getElem (by omega)⟩
      rw [ho] at hio
      simp only [Bool.and_eq_true] at hio
      have : i ∈ Region.ready md ops listed := mem_ready.2 ⟨getD_in (by rw [inv.size]; omega) h2, o, ho, fun e he hb => h3 _ (by
        have := List.all_eq_true.1 hio.1 e.on (mem_depsOf he hb)
        simpa using this)⟩
      rw [h0] at this
      cases this
    · obtain ⟨hun, o, ho, hdep⟩ := mem_ready.1 hi
      have hunf := getD_both hun
      have hisz := (Array.getElem?_eq_some_iff.1 ho).1
      have hik : i < n ∨ k ≤ i := by
        rcases Nat.lt_or_ge i n with h | h
        · exact .inl h
        · rcases Nat.lt_or_ge i k with h' | h'
          · have := inv.pre i h h'
            rw [hunf] at this; cases this
          · exact .inr h'
      have hin : i < n := by
        rcases hik with h | h
        · exact h
        · exfalso
          obtain ⟨q, h1, h2, h3⟩ := cntU_pos n listed (by omega)
          have ht := List.all_eq_true.1 htail i (List.mem_range.2 hisz)
          simp only [Bool.or_eq_true, decide_eq_true_eq] at ht
          rcases ht with (ht | ht) | ht
          · omega
          · have key : ∀ (d q : Nat), q < n → n - q ≤ d → listed.getD q false = false → False := fun d => by
              induction d with
              | zero => intro q h1 h4 _; omega
              | succ d ihd =>
                intro q h1 h4 h2
                have hq := List.all_eq_true.1 ht q (List.mem_range.2 h1)
                simp only [Bool.or_eq_true] at hq
                rcases hq with hq | hq
                · obtain ⟨oj, hoj, e, he, hb, hon⟩ := Region.waitsFor_spec hq
                  obtain rfl : oj = o := Option.some.inj (hoj.symm.trans ho)
                  have := hdep e he hb
                  rw [hon, h2] at this
                  cases this
                · obtain ⟨j, hj, hj2⟩ := List.any_eq_true.1 hq
                  simp only [Bool.and_eq_true, decide_eq_true_eq] at hj2
                  have hjn := List.mem_range.1 hj
                  obtain ⟨oj, hoj, e, he, hb, hon⟩ := Region.waitsFor_spec hj2.2
                  cases hlj : listed.getD j false with
                  | true =>
                    have := inv.closed j oj hjn hlj hoj e he hb
                    rw [hon, h2] at this
                    cases this
                  | false => exact ihd j hjn (by omega) hlj
            exact key n q h1 (by omega) h2
          · obtain ⟨j, hj, hj2⟩ := List.any_eq_true.1 ht
            simp only [Bool.and_eq_true, decide_eq_true_eq] at hj2
            obtain ⟨oj, hoj, e, he, hb, hon⟩ := Region.waitsFor_spec hj2.2
            obtain rfl : oj = o := Option.some.inj (hoj.symm.trans ho)
            have := hdep e he hb
            have hjl := List.mem_range.1 hj
            rw [hon, getD_both (inv.tail j hj2.1 (by omega))] at this
            cases this
      obtain ⟨φ, hr⟩ : ∃ φ, T[i]? = some φ := ⟨_, List.getElem?_eq_getElem (by omega)⟩
      obtain ⟨d, hd⟩ : ∃ d, ds[i]? = some d := ⟨_, List.getElem?_eq_getElem (by omega)⟩
      have hio := List.all_eq_true.1 hops i (List.mem_range.2 hin)
      rw [ho] at hio
      simp only [Bool.and_eq_true, decide_eq_true_eq] at hio
      have hod : o.dst = some d := hio.2.trans hd
      have hlo : l[i]? = some o := by rw [← ho, ← hl]; simp
      have hstep := stepsM_get hs i φ o hr hlo a inv.frame w inv.bel (fun j hj => by
        have hji : j < i := by
          have := List.all_eq_true.1 hio.1 j (by simpa using hj)
          simpa using this
        refine inv.rows j (by omega) ?_
        unfold depsOf at hj
        simp only [List.contains_iff_mem, List.mem_map, List.mem_filter] at hj
        obtain ⟨e, ⟨he, hb⟩, rfl⟩ := hj
        exact hdep e (by simpa using he) hb)
      have hdm : d ∈ ds := List.mem_of_getElem? hd
      have hsz : d < a.tmps.size := by rw [inv.frame.size]; exact hin0 d hdm
      have hnext : ∀ v w', Below w.heap.size w w' → φ v w' → MInv2 md ops n k T ds a0 W (listed.setIfInBounds i true) (a.put o.dst v) w' := fun v w' hb hrv => by
        rw [hod]
        refine ⟨by simp [inv.size], fun t h1 h2 => getD_set_true (inv.pre t h1 h2), fun t h1 h2 => by rw [getD_set_ne true (by omega)]; exact inv.tail t h1 h2, inv.bel.trans (hb.mono inv.bel.size), inv.frame.put (fun k hk => (Option.some.inj hk) ▸ hdm) v, fun j hjn hjl ψ d' hr' hd' => ?_, fun j oj hjn hjl hoj e he hb2 => ?_⟩
        rotate_left
        · by_cases hji : j = i
          · subst hji
            obtain rfl : oj = o := Option.some.inj (hoj.symm.trans ho)
            exact getD_set_true (hdep e he hb2)
          · rw [getD_set_ne false (fun e => hji e.symm)] at hjl
            exact getD_set_true (inv.closed j oj hjn hjl hoj e he hb2)
        by_cases hji : j = i
        · subst hji
          obtain rfl : ψ = φ := Option.some.inj (hr'.symm.trans hr)
          obtain rfl : d' = d := Option.some.inj (hd'.symm.trans hd)
          have : (a.put (some d') v).eval (.tmp d') = v := by simp [Act.eval, Act.put, hsz]
          rw [this]
          exact hrv
        · rw [getD_set_ne false (fun e => hji e.symm)] at hjl
          have h0 := inv.rows j hjn hjl ψ d' hr' hd'
          have h1 := hst ψ (List.mem_of_getElem? hr') _ w w' hb h0
          rw [Act.eval_put fun k hk e => ?_]
          · exact h1
          · cases e
            obtain rfl := Option.some.inj hk
            exact hji (nodupB_spec hnd j i _ hd' hd)
      have hcs : cntU n (listed.setIfInBounds i true) = m := by
        have := cntU_set n i listed hin (by rw [inv.size]; omega) hunf
        omega
      unfold wpOp
      simp only [ho]
      unfold mStep at hstep
      by_cases hw : Region.wanted o (yielded ops a.tmps) = true
      · rw [if_pos hw] at hstep ⊢
        refine .inl ?_
        unfold Oper.wp
        generalize (execOp a.eval o).run P w = res at *
        cases res with
        | ok nx w' =>
          cases nx <;> simp only [mUpon] at hstep <;> simp only [Oper.upon]
          case value u => exact ih _ _ _ hcs (hnext u w' hstep.1 hstep.2)
          case skip => exact ih _ _ _ hcs (hnext undef w' hstep.1 hstep.2)
          case enter f args =>
            refine hstep.mono ?_
            rintro e w'' ⟨v, rfl, h1, h2⟩
            exact ih _ _ _ hcs (hnext v w'' h1 h2)
        | halt x w' => simp only [mUpon] at hstep
      · rw [if_neg hw] at hstep ⊢
        exact ih _ _ _ hcs (hnext undef w (Below.refl _ _) hstep)
theorem wp_region_mono2 {id : Nat} {Q : Exit → Act → World → Prop} {a0 : Act} {w : World} {l : List Oper} (n : Nat) (ds : List Nat) (T : List (Value → World → Prop)) (hm : P.follows .mixedOrders = true) (hB : monoB2 .any l.toArray n n ds = true) (hT : T.length = n)
    (hin0 : (ds.all fun d => decide (d < a0.tmps.size)) = true) (hst : ∀ φ ∈ T, ∀ v w w', Below w.heap.size w w' → φ v w → φ v w') (hs : stepsM P .any l.toArray T ds a0 w.drew T l)
    (hf : ∀ w', Below w.heap.size w.drew w' → finV ds T a0 w' fun a => wpList P l.toArray Q (l.drop n) a w') : (Code.region id l.toArray true).wp P Q a0 w := by
  refine wp_region_any hm ?_
  have hn : n ≤ l.toArray.size ∧ ds.length = n := by
    unfold monoB2 at hB
    simp only [Bool.and_eq_true, decide_eq_true_eq] at hB
    exact ⟨hB.1.1.1.1.2, hB.1.1.1.1.1.1⟩
  have := wpAny_mono2 (P := P) (md := .any) (Q := Q) (a0 := a0) (W := w.drew) rfl hT hB (fun d hd => by simpa using List.all_eq_true.1 hin0 d hd) hst hs (fun a he w' hb hr => finV_of ds T (by rw [hT]; exact hn.2) (hf w' hb) he fun i φ d h1 h2 => hr i φ d h1 h2) n (Array.replicate l.toArray.size false) a0 w.drew (cntU_replicate _ _)
    ⟨by simp, fun t h1 h2 => by omega, fun t _ ht => getD_in (by simpa using ht) (getD_replicate_false _ _), Below.refl _ _, FrameEq.refl _ _, fun i _ h => (by rw [getD_replicate_false] at h; cases h), fun i _ _ h => (by rw [getD_replicate_false] at h; cases h)⟩
  rw [show n + (l.toArray.size - n) = l.toArray.size by omega] at this
  exact this
end
end Go.Proofs.YtplmmamebfpcjaaGreatDoor
end
