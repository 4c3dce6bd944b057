import Derived.Test.YtonbfcpbgkpbaaaGreatDoorJ1
import Derived.Test.YtonbfcpbgkpbaaaGreatDoorJ6
import Derived.Test.YtonbfcpbgkpbaaaGreatDoorJ13
import Derived.Test.YtonbfcpbgkpbaaaGreatDoorJ15
import Derived.Test.YtonbfcpbgkpbaaaGreatDoorJ17
import Derived.Test.YtonbfcpbgkpbaaaGreatDoorRows
import Derived.WalkKit
import Derived.ProofKit
import Derived.Below
import Derived.OpenShut
import Derived.WalkSpells
import Derived.WalkLawsBesides
import Derived.Deep.QuietTactic
import Derived.BigQuiet
import Derived.Laws.CopyOwn
import Derived.Laws.MakeOwn
import Derived.Laws.OwnMore
import Derived.Deep.DeepMust
import Derived.Lib.UnsafeStr
import Derived.Lib.BufferWrite
import Derived.Lib.QuietBelow
import Derived.Laws.StructEq
section
/- tesserakeep.Handed, Frame.Intact: their contracts (out of older texts). -/
namespace Go.Proofs.YtonbfcpbgkpbaaaGreatDoor
open Go.RowKit Go.Sort Go.Joins
set_option linter.unusedVariables false
/-- Its value. -/
def spv (x : Sp) : Value := .agg #[.int .i32 x.lo, .int .i32 x.hi]
theorem SPS.take {w : World} {a : Option Addr} {l : List Sp} (h : SPS w a l) (n : Nat) : SPS w a (l.take n) := by
  rcases h with rfl | ⟨b, off, rfl, hc⟩
  · exact .inl (by simp)
  · refine .inr ⟨b, off, rfl, fun i x hx => hc i x ?_⟩
    rw [List.getElem?_take] at hx
    split at hx
    · exact hx
    · cases hx
/-- Its value. -/
def mgV (x : Mg) : Value := .agg #[.int .i64 x.l, .int .i64 x.r, .int .i64 x.i]
/-- Copying whole elements of k cells each into a row. -/
theorem run_copy_rowN {P : Program} (w : World) (dT sT ty elem : TypeId) (k g o dLen dCap : Nat) (a : Addr) (sLen sCap : Nat) (cur : Array Value) (t : TypeId) (cs : List Value)
    (hu : P.underlying dT = some (.slice elem)) (hs : (P.info? elem).map (·.size) = some k)
    (hg : w.heap[g]? = some (.cells cur t (0, 0))) (hn : cs.length = Nat.min sLen dLen * k)
    (hsrc : ∀ j v, cs[j]? = some v → w.cell? (a.add j) = some v) (hfit : o + cs.length ≤ cur.size) (h1 : ∀ v ∈ cs, v.oneCell' = true) :
    (Builtin.copy_ #[dT, sT] ty #[.slice (some ⟨g, o, none⟩) dLen dCap, .slice (some a) sLen sCap]).run P w =
      .ok (goInt (Nat.min sLen dLen)) (w.setRow g (cur.toList.take o ++ cs ++ cur.toList.drop (o + cs.length)).toArray) := by
  have hl := run_loadCells_list (P := P) w a cs hsrc
  have hst := run_storeCells_at P g o t cs 0 cur w hg (by simpa using hfit) h1
  rw [hn] at hl
  cases hq : P.info? elem with
  | none => simp [hq] at hs
  | some i =>
    have hi : i.size = k := by simpa [hq] using hs
    simp [Builtin.copy_, run_underlying hu, Builtin.lenOf, Builtin.firstCells, sizeOf, typeInfo, hq, hi, hl, hst]
/-- A block of spans' cells. -/
def OwnP (w : World) (g : Nat) (L : List Value) : Prop := w.heap[g]? = some (.cells L.toArray 41 (0, 0))
theorem OwnP.below {w w' : World} {g : Nat} {L : List Value} {B : Nat} (h : OwnP w g L) (hb : Below B w w') (hg : g < B) : OwnP w' g L := by
  unfold OwnP; rw [hb.block g hg]; exact h
theorem OwnP.lt {w : World} {g : Nat} {L : List Value} (h : OwnP w g L) : g < w.heap.size := (Array.getElem?_eq_some_iff.1 h).1
theorem OwnP.cell {w : World} {g : Nat} {L : List Value} (h : OwnP w g L) (j : Nat) : w.cell? ⟨g, j, none⟩ = L[j]? := by
  rw [cell_of_block h]; simp
theorem OwnP.free {w : World} {g : Nat} {L : List Value} (h : OwnP w g L) (j : Nat) : w.frozen? ⟨g, j, none⟩ = false := unfrozen_of_block h j
theorem OwnP.set {w : World} {g : Nat} {L : List Value} (h : OwnP w g L) (j : Nat) (v : Value) : OwnP (w.setCell ⟨g, j, none⟩ v) g (L.set j v) := by
  have := block_setCell h (i := j) v
  unfold OwnP; rw [this]; simp
theorem cellsS_append (l r : List Sp) : cellsS (l ++ r) = cellsS l ++ cellsS r := by simp [cellsS]
theorem cellsS_one (l : List Sp) : ∀ v ∈ cellsS l, v.oneCell' = true := by
  intro v hv
  simp [cellsS] at hv
  obtain ⟨c, _, h⟩ := hv
  rcases h with rfl | rfl <;> rfl
theorem cellsS_set (l : List Sp) (i : Nat) (x : Sp) : ((cellsS l).set (i * 2) (.int .i32 x.lo)).set (i * 2 + 1) (.int .i32 x.hi) = cellsS (l.set i x) := by
  induction l generalizing i with
  | nil => simp [cellsS]
  | cons y l ih =>
    have e : ∀ z, cellsS (z :: l) = .int .i32 z.lo :: .int .i32 z.hi :: cellsS l := fun z => rfl
    cases i with
    | zero => rfl
    | succ i =>
      have e2 : cellsS ((y :: l).set (i + 1) x) = .int .i32 y.lo :: .int .i32 y.hi :: cellsS (l.set i x) := rfl
      rw [e2, e, ← ih i, show (i + 1) * 2 = i * 2 + 1 + 1 by omega, show i * 2 + 1 + 1 + 1 = i * 2 + 1 + 1 + 1 from rfl]
      rfl
/-- The spans of l, k marks, noughts up to 80. -/
def fillS (l : List Sp) (m : Sp) (k : Nat) : List Sp := l ++ (List.replicate k m ++ List.replicate (80 - k) ⟨0, 0⟩)
theorem fillS_set (l : List Sp) (m : Sp) (k : Nat) (h : k < 80) : (fillS l m k).set (l.length + k) m = fillS l m (k + 1) := by
  unfold fillS
  rw [List.set_append_right _ _ (by omega), Nat.add_sub_cancel_left, List.set_append_right _ _ (by simp)]
  simp only [List.length_replicate, Nat.sub_self]
  rw [show 80 - k = (80 - (k + 1)) + 1 from by omega, List.replicate_succ, List.set_cons_zero, List.replicate_succ', List.append_assoc]
  rfl
theorem fillS_length (l : List Sp) (m : Sp) (k : Nat) (h : k ≤ 80) : (fillS l m k).length = l.length + 80 := by
  simp [fillS]; omega
theorem fillS_get (l : List Sp) (m : Sp) (n k : Nat) (h : k < n) : (fillS l m n)[l.length + k]? = some m := by
  unfold fillS
  rw [List.getElem?_append_right (by omega), Nat.add_sub_cancel_left, List.getElem?_append_left (by simpa using h)]
  simp [h]
theorem copy_cellsS (l : List Sp) : (cellsS (List.replicate (l.length + 80) ⟨0, 0⟩)).take 0 ++ cellsS l ++ (cellsS (List.replicate (l.length + 80) ⟨0, 0⟩)).drop (0 + (cellsS l).length) = cellsS (fillS l ⟨0, 0⟩ 0) := by
  have h : cellsS (List.replicate (l.length + 80) ⟨0, 0⟩) = cellsS (List.replicate l.length ⟨0, 0⟩) ++ cellsS (List.replicate 80 ⟨0, 0⟩) := by
    rw [← cellsS_append, List.replicate_append_replicate]
  rw [h, Nat.zero_add, List.drop_append_of_le_length (by rw [cellsS_length, cellsS_length]; simp), List.drop_of_length_le (by rw [cellsS_length, cellsS_length]; simp)]
  unfold fillS
  simp [cellsS_append]
theorem fillS_start (l : List Sp) (m : Sp) : fillS l ⟨0, 0⟩ 0 = fillS l m 0 := by simp [fillS]
theorem info26 : (Tryz.prog.info? 41).map (fun i => (i.zero, i.size, i.bytes)) = some (some (.agg #[.int .i32 0, .int .i32 0]), 2, 8) := by kernel_rfl
theorem size26 : (Tryz.prog.info? 41).map (·.size) = some 2 := by kernel_rfl
theorem madeS (n : Nat) : madeCells #[Value.int .i32 0, Value.int .i32 0] (n * 2) = (cellsS (List.replicate n ⟨0, 0⟩)).toArray := by
  have e : cellsS (List.replicate n ⟨0, 0⟩) = List.replicate (n * 2) (.int .i32 0) := by
    induction n with
    | zero => rfl
    | succ n ih =>
      rw [List.replicate_succ, show cellsS (⟨0, 0⟩ :: List.replicate n ⟨0, 0⟩) = .int .i32 0 :: .int .i32 0 :: cellsS (List.replicate n ⟨0, 0⟩) from rfl, ih, show (n + 1) * 2 = n * 2 + 1 + 1 by omega, List.replicate_succ, List.replicate_succ]
  rw [e]
  apply Array.ext
  · simp [madeCells]
  · intro i h1 h2
    simp only [madeCells, Array.getElem_map, List.getElem_toArray, List.getElem_replicate]
    have : (Array.range (n * 2))[i]'(by simpa [madeCells] using h1) % #[Value.int .i32 0, Value.int .i32 0].size < 2 := Nat.mod_lt _ (by decide)
    generalize (Array.range (n * 2))[i]'(by simpa [madeCells] using h1) % #[Value.int .i32 0, Value.int .i32 0].size = j at this
    match j, this with
    | 0, _ => rfl
    | 1, _ => rfl
theorem copy_runS (W : World) (g : Nat) (a : Option Addr) (cap : Nat) (l : List Sp) (hO : OwnP W g (cellsS (List.replicate (l.length + 80) ⟨0, 0⟩))) (h : SPS W a l) :
    ∃ W1, (Builtin.copy_ #[24, 24] 3 #[.slice (some ⟨g, 0, none⟩) (l.length + 80) (l.length + 80), .slice a l.length cap]).run Tryz.prog W = .ok (.int .i64 (l.length : Int)) W1 ∧
      OwnP W1 g (cellsS (fillS l ⟨0, 0⟩ 0)) ∧ ∀ B w0, Below B w0 W → B ≤ g → Below B w0 W1 := by
  have nil : l = [] → ∃ W1, (Builtin.copy_ #[24, 24] 3 #[.slice (some ⟨g, 0, none⟩) (l.length + 80) (l.length + 80), .slice a l.length cap]).run Tryz.prog W = .ok (.int .i64 (l.length : Int)) W1 ∧
      OwnP W1 g (cellsS (fillS l ⟨0, 0⟩ 0)) ∧ ∀ B w0, Below B w0 W → B ≤ g → Below B w0 W1 := by
    rintro rfl
    refine ⟨W, ?_, by simpa [fillS] using hO, fun _ _ h _ => h⟩
    have hl : ∀ (x : Addr), (loadCells x 0).run Tryz.prog W = .ok #[] W := fun x => by simpa using run_loadCells_list (P := Tryz.prog) W x [] (by simp)
    cases hq : Tryz.prog.info? 41 with
    | none => have := size26; simp [hq] at this
    | some i =>
      cases a <;> simp [Builtin.copy_, run_underlying Tryz.underlying24, Builtin.lenOf, Builtin.firstCells, sizeOf, typeInfo, hq, storeCells, hl, goInt]
  rcases h with h | ⟨b, off, rfl, hc⟩
  · exact nil h
  · have hmin : Nat.min l.length (l.length + 80) = l.length := Nat.min_eq_left (by omega)
    have hr := run_copy_rowN (P := Tryz.prog) W 24 24 3 41 2 g 0 (l.length + 80) (l.length + 80) ⟨b, off, none⟩ l.length cap _ 41 (cellsS l) Tryz.underlying24 size26 hO (by rw [hmin, cellsS_length])
      (SPS.cells (.inr ⟨b, off, rfl, hc⟩)) (by rw [List.size_toArray, cellsS_length, cellsS_length]; simp; omega) (cellsS_one l)
    rw [hmin] at hr
    refine ⟨_, hr, ?_, fun B w0 hb hg => below_setRow hb hg _⟩
    have := setRow_heap W g (cellsS (List.replicate (l.length + 80) ⟨0, 0⟩)).toArray ((cellsS (List.replicate (l.length + 80) ⟨0, 0⟩)).take 0 ++ cellsS l ++ (cellsS (List.replicate (l.length + 80) ⟨0, 0⟩)).drop (0 + (cellsS l).length)).toArray 41 (0, 0) hO
    rw [copy_cellsS] at this
    unfold OwnP
    rw [← this]
    rw [copy_cellsS]
theorem SpAt.other {w : World} {b off g : Nat} {x : Sp} (h : SpAt w b off x) (i j : Nat) (u : Value) {v : Value} (hg : b ≠ g) : SpAt ((w.setCell ⟨g, i, none⟩ u).setCell ⟨g, j, none⟩ v) b off x := by
  have e : ∀ o, ((w.setCell ⟨g, i, none⟩ u).setCell ⟨g, j, none⟩ v).cell? ⟨b, o, none⟩ = w.cell? ⟨b, o, none⟩ := fun o => by
    rw [World.cell?_setCell_other _ _ _ _ (fun e => hg (by injection e with e; exact e.symm)), World.cell?_setCell_other _ _ _ _ (fun e => hg (by injection e with e; exact e.symm))]
  exact ⟨(e _).trans h.1, (e _).trans h.2⟩
set_option maxHeartbeats 800000 in
theorem roomy_any (a : Option Addr) (cap : Nat) (l : List Sp) (m : Sp) (w : World) (hlen : l.length ≤ 17592186044416) (h : SPS w a l) :
    Calls Tryz.prog 13 #[.slice a l.length cap, spv m] w fun e w' => ∃ g, w.heap.size ≤ g ∧
      e = .returned (.slice (some ⟨g, 0, none⟩) (l.length + 80) (l.length + 80)) ∧ Below w.heap.size w w' ∧ OwnP w' g (cellsS (fillS l m 80)) := by
  obtain ⟨i0, hi, hz0, hz1, hz2⟩ := info_parts info26
  have hmk : ∀ u : World, (Instr.makeSlice 24 (.int .i64 ((l.length : Int) + 80)) (.int .i64 ((l.length : Int) + 80))).run Tryz.prog u =
      .ok (.slice (some ⟨u.heap.size, 0, none⟩) (l.length + 80) (l.length + 80)) (u.alloc (.cells (cellsS (List.replicate (l.length + 80) ⟨0, 0⟩)).toArray 41)) := fun u => by
    have h := run_make (P := Tryz.prog) u 24 41 i0 _ Tryz.underlying24 hi hz0 .i64 .i64 ((l.length : Int) + 80) ((l.length : Int) + 80) (by omega) (Int.le_refl _) (by rw [hz2]; omega) (by omega)
    have e : ((l.length : Int) + 80).toNat = l.length + 80 := by omega
    rw [e, hz1] at h
    rw [← madeS]
    simpa [Value.cells] using h
  have b0 := (Below.refl w.heap.size w).alloc (Nat.le_refl _) (.cells #[.int .i32 m.lo, .int .i32 m.hi] 41)
  have b1 := b0.alloc (by simp) (.cells (cellsS (List.replicate (l.length + 80) ⟨0, 0⟩)).toArray 41)
  have p1 : SpAt ((w.alloc (.cells #[.int .i32 m.lo, .int .i32 m.hi] 41)).alloc (.cells (cellsS (List.replicate (l.length + 80) ⟨0, 0⟩)).toArray 41)) w.heap.size 0 m :=
    SpAt.below (w := w.alloc (.cells #[.int .i32 m.lo, .int .i32 m.hi] 41)) ⟨by simp [go_sem], by simp [go_sem]⟩ ((Below.refl _ _).alloc (Nat.le_refl _) _)
  have hO : OwnP ((w.alloc (.cells #[.int .i32 m.lo, .int .i32 m.hi] 41)).alloc (.cells (cellsS (List.replicate (l.length + 80) ⟨0, 0⟩)).toArray 41)) (w.heap.size + 1) (cellsS (List.replicate (l.length + 80) ⟨0, 0⟩)) := by
    have := heap_alloc_new (w.alloc (.cells #[.int .i32 m.lo, .int .i32 m.hi] 41)) (.cells (cellsS (List.replicate (l.length + 80) ⟨0, 0⟩)).toArray 41)
    rw [World.size_alloc] at this
    exact this
  obtain ⟨w1, hcp, ho1, hb1⟩ := copy_runS _ (w.heap.size + 1) a cap l hO (h.below b1)
  have hB1 := hb1 _ _ b1 (by omega)
  have hP1 := hb1 _ _ (Below.refl (w.heap.size + 1) _) (Nat.le_refl _)
  have p2 : SpAt w1 w.heap.size 0 m := by
    have e : ∀ o, w1.cell? ⟨w.heap.size, o, none⟩ = ((w.alloc (.cells #[.int .i32 m.lo, .int .i32 m.hi] 41)).alloc (.cells (cellsS (List.replicate (l.length + 80) ⟨0, 0⟩)).toArray 41)).cell? ⟨w.heap.size, o, none⟩ := fun o =>
      hP1.cell (p := ⟨w.heap.size, o, none⟩) (by simp)
    exact ⟨(e 0).trans p1.1, (e (0 + 1)).trans p1.2⟩
  rw [fillS_start l m] at ho1
  clear hO h b0 b1 p1 hb1 hP1
  unfold spv
  go_enter Tryz.func13, Tryz.ntmps13
  go_wp2
  go_loopw [6] (fun v wr => ∃ i : Nat, l.length ≤ i ∧ i ≤ l.length + 80 ∧ v = .int .i64 (i : Nat) ∧ OwnP wr (w.heap.size + 1) (cellsS (fillS l m (i - l.length))) ∧ SpAt wr w.heap.size 0 m ∧ Below w.heap.size w wr) (fun v _ => 80 + l.length - (intOf v).toNat)
  case atStart => exact ⟨l.length, Nat.le_refl _, by omega, rfl, by rw [Nat.sub_self]; exact ho1, p2, hB1⟩
  case round =>
    clear ho1 p2 hB1 hcp hmk
    obtain ⟨i, hi1, hi2, rfl, hown, ⟨m0, m1⟩, hbr⟩ := hrel
    have HO : Hid (OwnP wr (w.heap.size + 1) (cellsS (fillS l m (i - l.length)))) := hown
    by_cases hlt : i < l.length + 80
    · obtain ⟨y, hx⟩ : ∃ y, (fillS l m (i - l.length))[i]? = some y := ⟨_, List.getElem?_eq_getElem (by rw [fillS_length _ _ _ (by omega)]; omega)⟩
      have c0 := (hown.cell (i * 2)).trans (cellsS_get _ _ _ hx).1
      have c1 := (hown.cell (i * 2 + 1)).trans (cellsS_get _ _ _ hx).2
      have f0 := hown.free (i * 2)
      have f1 := hown.free (i * 2 + 1)
      have hd : decide ((i : Int) < (l.length : Int) + 80) = true := decide_eq_true (by omega)
      rw [Nat.zero_add] at m1
      have M0 : Hid (SpAt wr w.heap.size 0 m) := ⟨m0, by rw [Nat.zero_add]; exact m1⟩
      clear hx hown
      go_wp2_with fail
      refine ⟨⟨i + 1, by omega, by omega, by go_num, ?_, M0.out.other _ _ _ (by omega), (hbr.setCell (p := ⟨w.heap.size + 1, i * 2, none⟩) (show w.heap.size ≤ w.heap.size + 1 by omega) _).setCell (p := ⟨w.heap.size + 1, i * 2 + 1, none⟩) (show w.heap.size ≤ w.heap.size + 1 by omega) _⟩, by simp only [intOf]; omega⟩
      have h1 := (HO.out.set (i * 2) (.int .i32 m.lo)).set (i * 2 + 1) (.int .i32 m.hi)
      have h2 := fillS_set l m (i - l.length) (by omega)
      rw [show l.length + (i - l.length) = i by omega] at h2
      rw [cellsS_set, h2] at h1
      rw [show i + 1 - l.length = i - l.length + 1 by omega]
      exact h1
    · have hi80 : i = l.length + 80 := by omega
      subst hi80
      clear hown m0 m1
      go_wp2_with fail
      go_ret
      exact ⟨_, by omega, rfl, hbr, by have := HO.out; rwa [Nat.add_sub_cancel_left] at this⟩
set_option maxHeartbeats 800000 in
/-- Of what Roomy made, and stayed, Intact is true. -/
theorem intact_any (g : Nat) (a : Option Addr) (cap : Nat) (l : List Sp) (m : Sp) (w : World) (hlen : l.length ≤ 17592186044416) (hf : OwnP w g (cellsS (fillS l m 80))) (h : SPS w a l) :
    Calls Tryz.prog 30 #[.slice (some ⟨g, 0, none⟩) (l.length + 80) (l.length + 80), .slice a l.length cap, spv m] w fun e w' => e = .returned (.bool true) ∧ Below w.heap.size w w' := by
  have b0 := (Below.refl w.heap.size w).alloc (Nat.le_refl _) (.cells #[.int .i32 m.lo, .int .i32 m.hi] 41)
  have p0 : SpAt (w.alloc (.cells #[.int .i32 m.lo, .int .i32 m.hi] 41)) w.heap.size 0 m := ⟨by simp [go_sem], by simp [go_sem]⟩
  have hf0 := hf.below b0 hf.lt
  have hs : SPS w (some ⟨g, 0, none⟩) l := SPS.of_block hf
  have hsame := same_any (some ⟨g, 0, none⟩) a (l.length + 80) cap l (w.alloc (.cells #[.int .i32 m.lo, .int .i32 m.hi] 41)) (by omega) (hs.below b0) (h.below b0)
  have hne : (((l.length : Int) + 80) != ((l.length : Int) + 80)) = false := by simp
  have HE := eqIn_sp m m true (spEq_self m)
  have HF := neq_sp m m false (by rw [spEq_self]; rfl)
  clear hf h hs
  unfold spv
  go_enter Tryz.func30, Tryz.ntmps30
  go_wp2_with fail
  refine hsame.mono ?_
  rintro e w1 ⟨rfl, hb1⟩
  have hf1 := hf0.below hb1 hf0.lt
  have p1 := p0.below hb1
  have B1 := b0.trans (hb1.mono b0.size)
  clear hsame hb1 hf0 p0 b0
  go_wp2_with fail
  go_loopw [7] (fun v wr => ∃ i : Nat, l.length ≤ i ∧ i ≤ l.length + 80 ∧ v = .int .i64 (i : Nat) ∧ Below w1.heap.size w1 wr) (fun v _ => 80 + l.length - (intOf v).toNat)
  case atStart => exact ⟨l.length, Nat.le_refl _, by omega, rfl, Below.refl _ _⟩
  case round =>
    obtain ⟨i, hi1, hi2, rfl, hbr⟩ := hrel
    by_cases hlt : i < l.length + 80
    · have hx := fillS_get l m 80 (i - l.length) (by omega)
      rw [show l.length + (i - l.length) = i by omega] at hx
      have c0 := (hf1.cell (i * 2)).trans (cellsS_get _ _ _ hx).1
      have c1 := (hf1.cell (i * 2 + 1)).trans (cellsS_get _ _ _ hx).2
      have c0 := (hbr.cell (World.block_lt_of_cell? w1 _ c0)).trans c0
      have c1 := (hbr.cell (World.block_lt_of_cell? w1 _ c1)).trans c1
      obtain ⟨m0, m1⟩ := p1.below hbr
      rw [Nat.zero_add] at m1
      have hd : decide ((i : Int) < (l.length : Int) + 80) = true := decide_eq_true (by omega)
      clear hx hf1
      go_wp2_with fail
      go_quiet (fail)
      go_wp2_with fail
      exact ⟨⟨i + 1, by omega, by omega, by go_num, below_drewN hbr nq⟩, by simp only [intOf]; omega⟩
    · have hi80 : i = l.length + 80 := by omega
      subst hi80
      go_wp2_with fail
      go_ret
      exact ⟨rfl, B1.trans (hbr.mono B1.size)⟩
theorem cellsW_one (l : List ByteArray) : ∀ v ∈ cellsW l, v.oneCell' = true := by
  intro v hv
  simp [cellsW] at hv
  obtain ⟨c, _, rfl⟩ := hv
  rfl
theorem cellsM_one (l : List Mg) : ∀ v ∈ cellsM l, v.oneCell' = true := by
  intro v hv
  simp [cellsM] at hv
  obtain ⟨c, _, h⟩ := hv
  rcases h with rfl | rfl | rfl <;> rfl
theorem infoW : (Tryz.prog.info? 9).map (fun i => (i.zero, i.size, i.bytes)) = some (some (.string ⟨#[]⟩), 1, 16) := by kernel_rfl
theorem infoM : (Tryz.prog.info? 39).map (fun i => (i.zero, i.size, i.bytes)) = some (some (.agg #[.int .i64 0, .int .i64 0, .int .i64 0]), 3, 24) := by kernel_rfl
/-- One cell of a block of data written. -/
theorem DBox.set {w : World} {z : Nat} {v0 v1 v2 v3 v4 : Value} (h : DBox w z v0 v1 v2 v3 v4) (i : Nat) (u : Value) : (w.setCell ⟨z, i, none⟩ u).heap[z]? = some (.cells (#[v0, v1, v2, v3, v4].setIfInBounds i u) 26 (0, 0)) := block_setCell h u
theorem DBox.s0 {w : World} {z : Nat} {v0 v1 v2 v3 v4 : Value} (h : DBox w z v0 v1 v2 v3 v4) (u : Value) : DBox (w.setCell ⟨z, 0, none⟩ u) z u v1 v2 v3 v4 := h.set 0 u
theorem DBox.s1 {w : World} {z : Nat} {v0 v1 v2 v3 v4 : Value} (h : DBox w z v0 v1 v2 v3 v4) (u : Value) : DBox (w.setCell ⟨z, 1, none⟩ u) z v0 u v2 v3 v4 := h.set 1 u
theorem DBox.s2 {w : World} {z : Nat} {v0 v1 v2 v3 v4 : Value} (h : DBox w z v0 v1 v2 v3 v4) (u : Value) : DBox (w.setCell ⟨z, 2, none⟩ u) z v0 v1 u v3 v4 := h.set 2 u
theorem DBox.s3 {w : World} {z : Nat} {v0 v1 v2 v3 v4 : Value} (h : DBox w z v0 v1 v2 v3 v4) (u : Value) : DBox (w.setCell ⟨z, 3, none⟩ u) z v0 v1 v2 u v4 := h.set 3 u
theorem DBox.s4 {w : World} {z : Nat} {v0 v1 v2 v3 v4 : Value} (h : DBox w z v0 v1 v2 v3 v4) (u : Value) : DBox (w.setCell ⟨z, 4, none⟩ u) z v0 v1 v2 v3 u := h.set 4 u
theorem DBox.other {w : World} {z : Nat} {v0 v1 v2 v3 v4 : Value} (h : DBox w z v0 v1 v2 v3 v4) {g o : Nat} (hg : g ≠ z) (u : Value) : DBox (w.setCell ⟨g, o, none⟩ u) z v0 v1 v2 v3 v4 :=
  (Below.heap_setCell w ⟨g, o, none⟩ u z (fun e => hg (by have e' : z = g := e; omega))).trans h
/-- A block, by a name that the walk doesn't open. -/
def Blk (w : World) (g : Nat) (o : Obj) : Prop := w.heap[g]? = some o
theorem Blk.lt {w : World} {g : Nat} {o : Obj} (h : Blk w g o) : g < w.heap.size := (Array.getElem?_eq_some_iff.1 h).1
theorem Blk.below {w w' : World} {g B : Nat} {o : Obj} (h : Blk w g o) (hb : Below B w w') (hg : g < B) : Blk w' g o := (hb.block g hg).trans h
theorem Blk.up {w w' : World} {g : Nat} {o : Obj} (h : Blk w g o) (hb : Below w.heap.size w w') : Blk w' g o := h.below hb h.lt
theorem Blk.new (w : World) (o : Obj) : Blk (w.alloc o) w.heap.size o := heap_alloc_new _ _
theorem Blk.cell {w : World} {g : Nat} {cs : Array Value} {t : TypeId} {fr : Nat × Nat} (h : Blk w g (.cells cs t fr)) (i : Nat) : w.cell? ⟨g, i, none⟩ = cs[i]? := cell_of_block h i
theorem Blk.free {w : World} {g : Nat} {cs : Array Value} {t : TypeId} (h : Blk w g (.cells cs t (0, 0))) (i : Nat) : w.frozen? ⟨g, i, none⟩ = false := unfrozen_of_block h i
/-- A block of words' cells. -/
def OwnPw (w : World) (g : Nat) (L : List Value) : Prop := w.heap[g]? = some (.cells L.toArray 9 (0, 0))
theorem OwnPw.below {w w' : World} {g : Nat} {L : List Value} {B : Nat} (h : OwnPw w g L) (hb : Below B w w') (hg : g < B) : OwnPw w' g L := by
  unfold OwnPw; rw [hb.block g hg]; exact h
theorem OwnPw.lt {w : World} {g : Nat} {L : List Value} (h : OwnPw w g L) : g < w.heap.size := (Array.getElem?_eq_some_iff.1 h).1
theorem OwnPw.cell {w : World} {g : Nat} {L : List Value} (h : OwnPw w g L) (j : Nat) : w.cell? ⟨g, j, none⟩ = L[j]? := by
  rw [cell_of_block h]; simp
theorem OwnPw.free {w : World} {g : Nat} {L : List Value} (h : OwnPw w g L) (j : Nat) : w.frozen? ⟨g, j, none⟩ = false := unfrozen_of_block h j
theorem OwnPw.set {w : World} {g : Nat} {L : List Value} (h : OwnPw w g L) (j : Nat) (v : Value) : OwnPw (w.setCell ⟨g, j, none⟩ v) g (L.set j v) := by
  have := block_setCell h (i := j) v
  unfold OwnPw; rw [this]; simp
theorem WSP.of_block {w : World} {g : Nat} {l r : List ByteArray} {t : TypeId} {fr : Nat × Nat} (h : w.heap[g]? = some (.cells (cellsW (l ++ r)).toArray t fr)) : WSP w (some ⟨g, 0, none⟩) l := by
  refine .inr ⟨g, 0, rfl, fun i x hx => ?_⟩
  have hx' : (l ++ r)[i]? = some x := by
    rw [List.getElem?_append_left (List.getElem?_eq_some_iff.1 hx).1]; exact hx
  have h0 := cellsW_get hx'
  rw [cell_of_block h, Nat.zero_add]
  simpa using h0
theorem cellsW_append (l r : List ByteArray) : cellsW (l ++ r) = cellsW l ++ cellsW r := by simp [cellsW]
theorem cellsW_set (l : List ByteArray) (i : Nat) (x : ByteArray) : (cellsW l).set i (.string x) = cellsW (l.set i x) := by simp [cellsW, List.map_set]
def fillW (l : List ByteArray) (m : ByteArray) (k : Nat) : List ByteArray := l ++ (List.replicate k m ++ List.replicate (80 - k) ⟨#[]⟩)
theorem fillW_set (l : List ByteArray) (m : ByteArray) (k : Nat) (h : k < 80) : (fillW l m k).set (l.length + k) m = fillW l m (k + 1) := by
  unfold fillW
  rw [List.set_append_right _ _ (by omega), Nat.add_sub_cancel_left, List.set_append_right _ _ (by simp)]
  simp only [List.length_replicate, Nat.sub_self]
  rw [show 80 - k = (80 - (k + 1)) + 1 from by omega, List.replicate_succ, List.set_cons_zero, List.replicate_succ', List.append_assoc]
  rfl
theorem fillW_length (l : List ByteArray) (m : ByteArray) (k : Nat) (h : k ≤ 80) : (fillW l m k).length = l.length + 80 := by
  simp [fillW]; omega
theorem fillW_get (l : List ByteArray) (m : ByteArray) (n k : Nat) (h : k < n) : (fillW l m n)[l.length + k]? = some m := by
  unfold fillW
  rw [List.getElem?_append_right (by omega), Nat.add_sub_cancel_left, List.getElem?_append_left (by simpa using h)]
  simp [h]
theorem fillW_start (l : List ByteArray) (m : ByteArray) : fillW l ⟨#[]⟩ 0 = fillW l m 0 := by simp [fillW]
theorem copy_cellsW (l : List ByteArray) : (cellsW (List.replicate (l.length + 80) ⟨#[]⟩)).take 0 ++ cellsW l ++ (cellsW (List.replicate (l.length + 80) ⟨#[]⟩)).drop (0 + (cellsW l).length) = cellsW (fillW l ⟨#[]⟩ 0) := by
  have h : cellsW (List.replicate (l.length + 80) ⟨#[]⟩) = cellsW (List.replicate l.length ⟨#[]⟩) ++ cellsW (List.replicate 80 ⟨#[]⟩) := by
    rw [← cellsW_append, List.replicate_append_replicate]
  rw [h, Nat.zero_add, List.drop_append_of_le_length (by rw [cellsW_length, cellsW_length]; simp), List.drop_of_length_le (by rw [cellsW_length, cellsW_length]; simp)]
  unfold fillW
  simp [cellsW_append]
theorem sizeW : (Tryz.prog.info? 9).map (·.size) = some 1 := by kernel_rfl
theorem madeW (n : Nat) : madeCells #[Value.string ⟨#[]⟩] (n * 1) = (cellsW (List.replicate n ⟨#[]⟩)).toArray := by
  have e : cellsW (List.replicate n ⟨#[]⟩) = List.replicate (n * 1) (.string ⟨#[]⟩) := by simp [cellsW]
  rw [e]
  apply Array.ext
  · simp [madeCells]
  · intro i h1 h2
    simp only [madeCells, Array.getElem_map, List.getElem_toArray, List.getElem_replicate]
    have : (Array.range (n * 1))[i]'(by simpa [madeCells] using h1) % #[Value.string ⟨#[]⟩].size < 1 := Nat.mod_lt _ (by decide)
    generalize (Array.range (n * 1))[i]'(by simpa [madeCells] using h1) % #[Value.string ⟨#[]⟩].size = j at this
    match j, this with
    | 0, _ => rfl
theorem copy_runW (W : World) (g : Nat) (a : Option Addr) (cap : Nat) (l : List ByteArray) (hO : OwnPw W g (cellsW (List.replicate (l.length + 80) ⟨#[]⟩))) (h : WSP W a l) :
    ∃ W1, (Builtin.copy_ #[22, 22] 3 #[.slice (some ⟨g, 0, none⟩) (l.length + 80) (l.length + 80), .slice a l.length cap]).run Tryz.prog W = .ok (.int .i64 (l.length : Int)) W1 ∧
      OwnPw W1 g (cellsW (fillW l ⟨#[]⟩ 0)) ∧ ∀ B w0, Below B w0 W → B ≤ g → Below B w0 W1 := by
  have nil : l = [] → ∃ W1, (Builtin.copy_ #[22, 22] 3 #[.slice (some ⟨g, 0, none⟩) (l.length + 80) (l.length + 80), .slice a l.length cap]).run Tryz.prog W = .ok (.int .i64 (l.length : Int)) W1 ∧
      OwnPw W1 g (cellsW (fillW l ⟨#[]⟩ 0)) ∧ ∀ B w0, Below B w0 W → B ≤ g → Below B w0 W1 := by
    rintro rfl
    refine ⟨W, ?_, by simpa [fillW] using hO, fun _ _ h _ => h⟩
    have hl : ∀ (x : Addr), (loadCells x 0).run Tryz.prog W = .ok #[] W := fun x => by simpa using run_loadCells_list (P := Tryz.prog) W x [] (by simp)
    cases hq : Tryz.prog.info? 9 with
    | none => have := sizeW; simp [hq] at this
    | some i =>
      cases a <;> simp [Builtin.copy_, run_underlying Tryz.underlying22, Builtin.lenOf, Builtin.firstCells, sizeOf, typeInfo, hq, storeCells, hl, goInt]
  rcases h with h | ⟨b, off, rfl, hc⟩
  · exact nil h
  · have hmin : Nat.min l.length (l.length + 80) = l.length := Nat.min_eq_left (by omega)
    have hr := run_copy_rowN (P := Tryz.prog) W 22 22 3 9 1 g 0 (l.length + 80) (l.length + 80) ⟨b, off, none⟩ l.length cap _ 9 (cellsW l) Tryz.underlying22 sizeW hO (by rw [hmin, cellsW_length])
      (WSP.cells (.inr ⟨b, off, rfl, hc⟩)) (by rw [List.size_toArray, cellsW_length, cellsW_length]; simp) (cellsW_one l)
    rw [hmin] at hr
    refine ⟨_, hr, ?_, fun B w0 hb hg => below_setRow hb hg _⟩
    have := setRow_heap W g (cellsW (List.replicate (l.length + 80) ⟨#[]⟩)).toArray ((cellsW (List.replicate (l.length + 80) ⟨#[]⟩)).take 0 ++ cellsW l ++ (cellsW (List.replicate (l.length + 80) ⟨#[]⟩)).drop (0 + (cellsW l).length)).toArray 9 (0, 0) hO
    rw [copy_cellsW] at this
    unfold OwnPw
    rw [← this]
    rw [copy_cellsW]
set_option maxHeartbeats 1600000 in
theorem roomyW_any (a : Option Addr) (cap : Nat) (l : List ByteArray) (m : ByteArray) (w : World) (hlen : l.length ≤ 8796093022208) (h : WSP w a l) :
    Calls Tryz.prog 11 #[.slice a l.length cap, .string m] w fun e w' => ∃ g, w.heap.size ≤ g ∧
      e = .returned (.slice (some ⟨g, 0, none⟩) (l.length + 80) (l.length + 80)) ∧ Below w.heap.size w w' ∧ OwnPw w' g (cellsW (fillW l m 80)) := by
  obtain ⟨i0, hi, hz0, hz1, hz2⟩ := info_parts infoW
  have hmk : ∀ u : World, (Instr.makeSlice 22 (.int .i64 ((l.length : Int) + 80)) (.int .i64 ((l.length : Int) + 80))).run Tryz.prog u =
      .ok (.slice (some ⟨u.heap.size, 0, none⟩) (l.length + 80) (l.length + 80)) (u.alloc (.cells (cellsW (List.replicate (l.length + 80) ⟨#[]⟩)).toArray 9)) := fun u => by
    have h := run_make (P := Tryz.prog) u 22 9 i0 _ Tryz.underlying22 hi hz0 .i64 .i64 ((l.length : Int) + 80) ((l.length : Int) + 80) (by omega) (Int.le_refl _) (by rw [hz2]; omega) (by omega)
    have e : ((l.length : Int) + 80).toNat = l.length + 80 := by omega
    rw [e, hz1] at h
    rw [← madeW]
    simpa [Value.cells] using h
  have b1 := (Below.refl w.heap.size w).alloc (Nat.le_refl _) (.cells (cellsW (List.replicate (l.length + 80) ⟨#[]⟩)).toArray 9)
  have hO : OwnPw (w.alloc (.cells (cellsW (List.replicate (l.length + 80) ⟨#[]⟩)).toArray 9)) w.heap.size (cellsW (List.replicate (l.length + 80) ⟨#[]⟩)) := heap_alloc_new _ _
  obtain ⟨w1, hcp, ho1, hb1⟩ := copy_runW _ w.heap.size a cap l hO (h.below b1)
  have hB1 := hb1 _ _ b1 (Nat.le_refl _)
  rw [fillW_start l m] at ho1
  clear hO h b1 hb1
  go_enter Tryz.func11, Tryz.ntmps11
  go_wp2
  go_loopw [6] (fun v wr => ∃ i : Nat, l.length ≤ i ∧ i ≤ l.length + 80 ∧ v = .int .i64 (i : Nat) ∧ OwnPw wr w.heap.size (cellsW (fillW l m (i - l.length))) ∧ Below w.heap.size w wr) (fun v _ => 80 + l.length - (intOf v).toNat)
  case atStart => exact ⟨l.length, Nat.le_refl _, by omega, rfl, by rw [Nat.sub_self]; exact ho1, hB1⟩
  case round =>
    clear ho1 hB1 hcp hmk
    obtain ⟨i, hi1, hi2, rfl, hown, hbr⟩ := hrel
    have HO : Hid (OwnPw wr w.heap.size (cellsW (fillW l m (i - l.length)))) := hown
    by_cases hlt : i < l.length + 80
    · obtain ⟨y, hx⟩ : ∃ y, (fillW l m (i - l.length))[i]? = some y := ⟨_, List.getElem?_eq_getElem (by rw [fillW_length _ _ _ (by omega)]; omega)⟩
      have c0 := (hown.cell i).trans (cellsW_get hx)
      have f0 := hown.free i
      have hd : decide ((i : Int) < (l.length : Int) + 80) = true := decide_eq_true (by omega)
      clear hx hown
      go_wp2_with fail
      refine ⟨⟨i + 1, by omega, by omega, by go_num, ?_, hbr.setCell (p := ⟨w.heap.size, i, none⟩) (Nat.le_refl _) _⟩, by simp only [intOf]; omega⟩
      have h1 := HO.out.set i (.string m)
      have h2 := fillW_set l m (i - l.length) (by omega)
      rw [show l.length + (i - l.length) = i by omega] at h2
      rw [cellsW_set, h2] at h1
      rw [show i + 1 - l.length = i - l.length + 1 by omega]
      exact h1
    · have hi80 : i = l.length + 80 := by omega
      subst hi80
      clear hown
      go_wp2_with fail
      go_ret
      exact ⟨_, Nat.le_refl _, rfl, hbr, by have := HO.out; rwa [Nat.add_sub_cancel_left] at this⟩
set_option maxHeartbeats 800000 in
/-- Of what Roomy made, and stayed, Intact is true. -/
theorem intactW_any (g : Nat) (a : Option Addr) (cap : Nat) (l : List ByteArray) (m : ByteArray) (w : World) (hlen : l.length ≤ 8796093022208) (hf : OwnPw w g (cellsW (fillW l m 80))) (h : WSP w a l) :
    Calls Tryz.prog 28 #[.slice (some ⟨g, 0, none⟩) (l.length + 80) (l.length + 80), .slice a l.length cap, .string m] w fun e w' => e = .returned (.bool true) ∧ Below w.heap.size w w' := by
  have hs : WSP w (some ⟨g, 0, none⟩) l := WSP.of_block hf
  have hsame := sameW_any (some ⟨g, 0, none⟩) a (l.length + 80) cap l w (by omega) hs h
  have hne : (((l.length : Int) + 80) != ((l.length : Int) + 80)) = false := by simp
  have HE : (m.toList == m.toList) = true := by simp
  have HF : (m.toList != m.toList) = false := by simp
  have HFF : Hid (OwnPw w g (cellsW (fillW l m 80))) := hf
  clear hf h hs
  go_enter Tryz.func28, Tryz.ntmps28
  go_wp2_with fail
  refine hsame.mono ?_
  rintro e w1 ⟨rfl, hb1⟩
  have hf1 := HFF.out.below hb1 HFF.out.lt
  have B1 := hb1
  clear hsame hb1
  go_wp2_with fail
  go_loopw [7] (fun v wr => ∃ i : Nat, l.length ≤ i ∧ i ≤ l.length + 80 ∧ v = .int .i64 (i : Nat) ∧ Below w1.heap.size w1 wr) (fun v _ => 80 + l.length - (intOf v).toNat)
  case atStart => exact ⟨l.length, Nat.le_refl _, by omega, rfl, Below.refl _ _⟩
  case round =>
    obtain ⟨i, hi1, hi2, rfl, hbr⟩ := hrel
    by_cases hlt : i < l.length + 80
    · have hx := fillW_get l m 80 (i - l.length) (by omega)
      rw [show l.length + (i - l.length) = i by omega] at hx
      have c0 := (hf1.cell i).trans (cellsW_get hx)
      have c0 := (hbr.cell (World.block_lt_of_cell? w1 _ c0)).trans c0
      have hd : decide ((i : Int) < (l.length : Int) + 80) = true := decide_eq_true (by omega)
      clear hx hf1
      go_wp2_with fail
      exact ⟨⟨i + 1, by omega, by omega, by go_num, hbr⟩, by simp only [intOf]; omega⟩
    · have hi80 : i = l.length + 80 := by omega
      subst hi80
      go_wp2_with fail
      go_ret
      exact ⟨rfl, B1.trans (hbr.mono B1.size)⟩
/-- A block of merges' cells. -/
def OwnPm (w : World) (g : Nat) (L : List Value) : Prop := w.heap[g]? = some (.cells L.toArray 39 (0, 0))
theorem OwnPm.below {w w' : World} {g : Nat} {L : List Value} {B : Nat} (h : OwnPm w g L) (hb : Below B w w') (hg : g < B) : OwnPm w' g L := by
  unfold OwnPm; rw [hb.block g hg]; exact h
theorem OwnPm.lt {w : World} {g : Nat} {L : List Value} (h : OwnPm w g L) : g < w.heap.size := (Array.getElem?_eq_some_iff.1 h).1
theorem OwnPm.cell {w : World} {g : Nat} {L : List Value} (h : OwnPm w g L) (j : Nat) : w.cell? ⟨g, j, none⟩ = L[j]? := by
  rw [cell_of_block h]; simp
theorem OwnPm.free {w : World} {g : Nat} {L : List Value} (h : OwnPm w g L) (j : Nat) : w.frozen? ⟨g, j, none⟩ = false := unfrozen_of_block h j
theorem OwnPm.set {w : World} {g : Nat} {L : List Value} (h : OwnPm w g L) (j : Nat) (v : Value) : OwnPm (w.setCell ⟨g, j, none⟩ v) g (L.set j v) := by
  have := block_setCell h (i := j) v
  unfold OwnPm; rw [this]; simp
theorem cellsM_append (l r : List Mg) : cellsM (l ++ r) = cellsM l ++ cellsM r := by simp [cellsM]
theorem cellsM_set (l : List Mg) (i : Nat) (x : Mg) : (((cellsM l).set (i * 3) (.int .i64 x.l)).set (i * 3 + 1) (.int .i64 x.r)).set (i * 3 + 2) (.int .i64 x.i) = cellsM (l.set i x) := by
  induction l generalizing i with
  | nil => simp [cellsM]
  | cons y l ih =>
    have e : ∀ z, cellsM (z :: l) = .int .i64 z.l :: .int .i64 z.r :: .int .i64 z.i :: cellsM l := fun z => rfl
    cases i with
    | zero => rfl
    | succ i =>
      have e2 : cellsM ((y :: l).set (i + 1) x) = .int .i64 y.l :: .int .i64 y.r :: .int .i64 y.i :: cellsM (l.set i x) := rfl
      rw [e2, e, ← ih i, show (i + 1) * 3 = i * 3 + 1 + 1 + 1 by omega]
      rfl
def fillM (l : List Mg) (m : Mg) (k : Nat) : List Mg := l ++ (List.replicate k m ++ List.replicate (80 - k) ⟨0, 0, 0⟩)
theorem fillM_set (l : List Mg) (m : Mg) (k : Nat) (h : k < 80) : (fillM l m k).set (l.length + k) m = fillM l m (k + 1) := by
  unfold fillM
  rw [List.set_append_right _ _ (by omega), Nat.add_sub_cancel_left, List.set_append_right _ _ (by simp)]
  simp only [List.length_replicate, Nat.sub_self]
  rw [show 80 - k = (80 - (k + 1)) + 1 from by omega, List.replicate_succ, List.set_cons_zero, List.replicate_succ', List.append_assoc]
  rfl
theorem fillM_length (l : List Mg) (m : Mg) (k : Nat) (h : k ≤ 80) : (fillM l m k).length = l.length + 80 := by
  simp [fillM]; omega
theorem fillM_get (l : List Mg) (m : Mg) (n k : Nat) (h : k < n) : (fillM l m n)[l.length + k]? = some m := by
  unfold fillM
  rw [List.getElem?_append_right (by omega), Nat.add_sub_cancel_left, List.getElem?_append_left (by simpa using h)]
  simp [h]
theorem fillM_start (l : List Mg) (m : Mg) : fillM l ⟨0, 0, 0⟩ 0 = fillM l m 0 := by simp [fillM]
theorem copy_cellsM (l : List Mg) : (cellsM (List.replicate (l.length + 80) ⟨0, 0, 0⟩)).take 0 ++ cellsM l ++ (cellsM (List.replicate (l.length + 80) ⟨0, 0, 0⟩)).drop (0 + (cellsM l).length) = cellsM (fillM l ⟨0, 0, 0⟩ 0) := by
  have h : cellsM (List.replicate (l.length + 80) ⟨0, 0, 0⟩) = cellsM (List.replicate l.length ⟨0, 0, 0⟩) ++ cellsM (List.replicate 80 ⟨0, 0, 0⟩) := by
    rw [← cellsM_append, List.replicate_append_replicate]
  rw [h, Nat.zero_add, List.drop_append_of_le_length (by rw [cellsM_length, cellsM_length]; simp), List.drop_of_length_le (by rw [cellsM_length, cellsM_length]; simp)]
  unfold fillM
  simp [cellsM_append]
theorem sizeM : (Tryz.prog.info? 39).map (·.size) = some 3 := by kernel_rfl
theorem madeMg (n : Nat) : madeCells #[Value.int .i64 0, Value.int .i64 0, Value.int .i64 0] (n * 3) = (cellsM (List.replicate n ⟨0, 0, 0⟩)).toArray := by
  have e : cellsM (List.replicate n ⟨0, 0, 0⟩) = List.replicate (n * 3) (.int .i64 0) := by
    induction n with
    | zero => rfl
    | succ n ih =>
      rw [List.replicate_succ, show cellsM (⟨0, 0, 0⟩ :: List.replicate n ⟨0, 0, 0⟩) = .int .i64 0 :: .int .i64 0 :: .int .i64 0 :: cellsM (List.replicate n ⟨0, 0, 0⟩) from rfl, ih, show (n + 1) * 3 = n * 3 + 1 + 1 + 1 by omega, List.replicate_succ, List.replicate_succ, List.replicate_succ]
  rw [e]
  apply Array.ext
  · simp [madeCells]
  · intro i h1 h2
    simp only [madeCells, Array.getElem_map, List.getElem_toArray, List.getElem_replicate]
    have : (Array.range (n * 3))[i]'(by simpa [madeCells] using h1) % #[Value.int .i64 0, Value.int .i64 0, Value.int .i64 0].size < 3 := Nat.mod_lt _ (by decide)
    generalize (Array.range (n * 3))[i]'(by simpa [madeCells] using h1) % #[Value.int .i64 0, Value.int .i64 0, Value.int .i64 0].size = j at this
    match j, this with
    | 0, _ => rfl
    | 1, _ => rfl
    | 2, _ => rfl
theorem copy_runM (W : World) (g : Nat) (a : Option Addr) (cap : Nat) (l : List Mg) (hO : OwnPm W g (cellsM (List.replicate (l.length + 80) ⟨0, 0, 0⟩))) (h : MSP W a l) :
    ∃ W1, (Builtin.copy_ #[23, 23] 3 #[.slice (some ⟨g, 0, none⟩) (l.length + 80) (l.length + 80), .slice a l.length cap]).run Tryz.prog W = .ok (.int .i64 (l.length : Int)) W1 ∧
      OwnPm W1 g (cellsM (fillM l ⟨0, 0, 0⟩ 0)) ∧ ∀ B w0, Below B w0 W → B ≤ g → Below B w0 W1 := by
  have nil : l = [] → ∃ W1, (Builtin.copy_ #[23, 23] 3 #[.slice (some ⟨g, 0, none⟩) (l.length + 80) (l.length + 80), .slice a l.length cap]).run Tryz.prog W = .ok (.int .i64 (l.length : Int)) W1 ∧
      OwnPm W1 g (cellsM (fillM l ⟨0, 0, 0⟩ 0)) ∧ ∀ B w0, Below B w0 W → B ≤ g → Below B w0 W1 := by
    rintro rfl
    refine ⟨W, ?_, by simpa [fillM] using hO, fun _ _ h _ => h⟩
    have hl : ∀ (x : Addr), (loadCells x 0).run Tryz.prog W = .ok #[] W := fun x => by simpa using run_loadCells_list (P := Tryz.prog) W x [] (by simp)
    cases hq : Tryz.prog.info? 39 with
    | none => have := sizeM; simp [hq] at this
    | some i =>
      cases a <;> simp [Builtin.copy_, run_underlying Tryz.underlying23, Builtin.lenOf, Builtin.firstCells, sizeOf, typeInfo, hq, storeCells, hl, goInt]
  rcases h with h | ⟨b, off, rfl, hc⟩
  · exact nil h
  · have hmin : Nat.min l.length (l.length + 80) = l.length := Nat.min_eq_left (by omega)
    have hr := run_copy_rowN (P := Tryz.prog) W 23 23 3 39 3 g 0 (l.length + 80) (l.length + 80) ⟨b, off, none⟩ l.length cap _ 39 (cellsM l) Tryz.underlying23 sizeM hO (by rw [hmin, cellsM_length])
      (MSP.cells (.inr ⟨b, off, rfl, hc⟩)) (by rw [List.size_toArray, cellsM_length, cellsM_length]; simp; omega) (cellsM_one l)
    rw [hmin] at hr
    refine ⟨_, hr, ?_, fun B w0 hb hg => below_setRow hb hg _⟩
    have := setRow_heap W g (cellsM (List.replicate (l.length + 80) ⟨0, 0, 0⟩)).toArray ((cellsM (List.replicate (l.length + 80) ⟨0, 0, 0⟩)).take 0 ++ cellsM l ++ (cellsM (List.replicate (l.length + 80) ⟨0, 0, 0⟩)).drop (0 + (cellsM l).length)).toArray 39 (0, 0) hO
    rw [copy_cellsM] at this
    unfold OwnPm
    rw [← this]
    rw [copy_cellsM]
theorem MgAt.other {w : World} {b off g : Nat} {x : Mg} (h : MgAt w b off x) (i j k : Nat) (u v y : Value) (hg : b ≠ g) : MgAt (((w.setCell ⟨g, i, none⟩ u).setCell ⟨g, j, none⟩ v).setCell ⟨g, k, none⟩ y) b off x := by
  have e : ∀ o, (((w.setCell ⟨g, i, none⟩ u).setCell ⟨g, j, none⟩ v).setCell ⟨g, k, none⟩ y).cell? ⟨b, o, none⟩ = w.cell? ⟨b, o, none⟩ := fun o => by
    rw [World.cell?_setCell_other _ _ _ _ (fun e => hg (by injection e with e; exact e.symm)), World.cell?_setCell_other _ _ _ _ (fun e => hg (by injection e with e; exact e.symm)), World.cell?_setCell_other _ _ _ _ (fun e => hg (by injection e with e; exact e.symm))]
  exact ⟨(e _).trans h.1, (e _).trans h.2.1, (e _).trans h.2.2⟩
set_option maxHeartbeats 1600000 in
theorem roomyM_any (a : Option Addr) (cap : Nat) (l : List Mg) (m : Mg) (w : World) (hlen : l.length ≤ 5864062014805) (h : MSP w a l) :
    Calls Tryz.prog 12 #[.slice a l.length cap, mgV m] w fun e w' => ∃ g, w.heap.size ≤ g ∧
      e = .returned (.slice (some ⟨g, 0, none⟩) (l.length + 80) (l.length + 80)) ∧ Below w.heap.size w w' ∧ OwnPm w' g (cellsM (fillM l m 80)) := by
  obtain ⟨i0, hi, hz0, hz1, hz2⟩ := info_parts infoM
  have hmk : ∀ u : World, (Instr.makeSlice 23 (.int .i64 ((l.length : Int) + 80)) (.int .i64 ((l.length : Int) + 80))).run Tryz.prog u =
      .ok (.slice (some ⟨u.heap.size, 0, none⟩) (l.length + 80) (l.length + 80)) (u.alloc (.cells (cellsM (List.replicate (l.length + 80) ⟨0, 0, 0⟩)).toArray 39)) := fun u => by
    have h := run_make (P := Tryz.prog) u 23 39 i0 _ Tryz.underlying23 hi hz0 .i64 .i64 ((l.length : Int) + 80) ((l.length : Int) + 80) (by omega) (Int.le_refl _) (by rw [hz2]; omega) (by omega)
    have e : ((l.length : Int) + 80).toNat = l.length + 80 := by omega
    rw [e, hz1] at h
    rw [← madeMg]
    simpa [Value.cells] using h
  have b0 := (Below.refl w.heap.size w).alloc (Nat.le_refl _) (.cells #[.int .i64 m.l, .int .i64 m.r, .int .i64 m.i] 39)
  have b1 := b0.alloc (by simp) (.cells (cellsM (List.replicate (l.length + 80) ⟨0, 0, 0⟩)).toArray 39)
  have p1 : MgAt ((w.alloc (.cells #[.int .i64 m.l, .int .i64 m.r, .int .i64 m.i] 39)).alloc (.cells (cellsM (List.replicate (l.length + 80) ⟨0, 0, 0⟩)).toArray 39)) w.heap.size 0 m :=
    (MgAt.new w m _).below ((Below.refl _ _).alloc (Nat.le_refl _) _)
  have hO : OwnPm ((w.alloc (.cells #[.int .i64 m.l, .int .i64 m.r, .int .i64 m.i] 39)).alloc (.cells (cellsM (List.replicate (l.length + 80) ⟨0, 0, 0⟩)).toArray 39)) (w.heap.size + 1) (cellsM (List.replicate (l.length + 80) ⟨0, 0, 0⟩)) := by
    have := heap_alloc_new (w.alloc (.cells #[.int .i64 m.l, .int .i64 m.r, .int .i64 m.i] 39)) (.cells (cellsM (List.replicate (l.length + 80) ⟨0, 0, 0⟩)).toArray 39)
    rw [World.size_alloc] at this
    exact this
  obtain ⟨w1, hcp, ho1, hb1⟩ := copy_runM _ (w.heap.size + 1) a cap l hO (h.below b1)
  have hB1 := hb1 _ _ b1 (by omega)
  have hP1 := hb1 _ _ (Below.refl (w.heap.size + 1) _) (Nat.le_refl _)
  have p2 : MgAt w1 w.heap.size 0 m := by
    have e : ∀ o, w1.cell? ⟨w.heap.size, o, none⟩ = ((w.alloc (.cells #[.int .i64 m.l, .int .i64 m.r, .int .i64 m.i] 39)).alloc (.cells (cellsM (List.replicate (l.length + 80) ⟨0, 0, 0⟩)).toArray 39)).cell? ⟨w.heap.size, o, none⟩ := fun o =>
      hP1.cell (p := ⟨w.heap.size, o, none⟩) (by simp)
    exact ⟨(e 0).trans p1.1, (e (0 + 1)).trans p1.2.1, (e (0 + 2)).trans p1.2.2⟩
  rw [fillM_start l m] at ho1
  clear hO h b0 b1 p1 hb1 hP1
  unfold mgV
  go_enter Tryz.func12, Tryz.ntmps12
  go_wp2
  go_loopw [6] (fun v wr => ∃ i : Nat, l.length ≤ i ∧ i ≤ l.length + 80 ∧ v = .int .i64 (i : Nat) ∧ OwnPm wr (w.heap.size + 1) (cellsM (fillM l m (i - l.length))) ∧ MgAt wr w.heap.size 0 m ∧ Below w.heap.size w wr) (fun v _ => 80 + l.length - (intOf v).toNat)
  case atStart => exact ⟨l.length, Nat.le_refl _, by omega, rfl, by rw [Nat.sub_self]; exact ho1, p2, hB1⟩
  case round =>
    clear ho1 p2 hB1 hcp hmk
    obtain ⟨i, hi1, hi2, rfl, hown, ⟨m0, m1, m2⟩, hbr⟩ := hrel
    have HO : Hid (OwnPm wr (w.heap.size + 1) (cellsM (fillM l m (i - l.length)))) := hown
    by_cases hlt : i < l.length + 80
    · obtain ⟨y, hx⟩ : ∃ y, (fillM l m (i - l.length))[i]? = some y := ⟨_, List.getElem?_eq_getElem (by rw [fillM_length _ _ _ (by omega)]; omega)⟩
      have c0 := (hown.cell (i * 3)).trans (cellsM_get _ _ _ hx).1
      have c1 := (hown.cell (i * 3 + 1)).trans (cellsM_get _ _ _ hx).2.1
      have c2 := (hown.cell (i * 3 + 2)).trans (cellsM_get _ _ _ hx).2.2
      have f0 := hown.free (i * 3)
      have f1 := hown.free (i * 3 + 1)
      have f2 := hown.free (i * 3 + 2)
      have hd : decide ((i : Int) < (l.length : Int) + 80) = true := decide_eq_true (by omega)
      have M0 : Hid (MgAt wr w.heap.size 0 m) := ⟨m0, m1, m2⟩
      rw [Nat.zero_add] at m1 m2
      clear hx hown
      go_wp2_with fail
      refine ⟨⟨i + 1, by omega, by omega, by go_num, ?_, M0.out.other _ _ _ _ _ _ (by omega), ((hbr.setCell (p := ⟨w.heap.size + 1, i * 3, none⟩) (show w.heap.size ≤ w.heap.size + 1 by omega) _).setCell (p := ⟨w.heap.size + 1, i * 3 + 1, none⟩) (show w.heap.size ≤ w.heap.size + 1 by omega) _).setCell (p := ⟨w.heap.size + 1, i * 3 + 2, none⟩) (show w.heap.size ≤ w.heap.size + 1 by omega) _⟩, by simp only [intOf]; omega⟩
      have h1 := ((HO.out.set (i * 3) (.int .i64 m.l)).set (i * 3 + 1) (.int .i64 m.r)).set (i * 3 + 2) (.int .i64 m.i)
      have h2 := fillM_set l m (i - l.length) (by omega)
      rw [show l.length + (i - l.length) = i by omega] at h2
      rw [cellsM_set, h2] at h1
      rw [show i + 1 - l.length = i - l.length + 1 by omega]
      exact h1
    · have hi80 : i = l.length + 80 := by omega
      subst hi80
      clear hown m0 m1 m2
      go_wp2_with fail
      go_ret
      exact ⟨_, by omega, rfl, hbr, by have := HO.out; rwa [Nat.add_sub_cancel_left] at this⟩
set_option maxHeartbeats 800000 in
/-- Of what Roomy made, and stayed, Intact is true. -/
theorem intactM_any (g : Nat) (a : Option Addr) (cap : Nat) (l : List Mg) (m : Mg) (w : World) (hlen : l.length ≤ 5864062014805) (hf : OwnPm w g (cellsM (fillM l m 80))) (h : MSP w a l) :
    Calls Tryz.prog 29 #[.slice (some ⟨g, 0, none⟩) (l.length + 80) (l.length + 80), .slice a l.length cap, mgV m] w fun e w' => e = .returned (.bool true) ∧ Below w.heap.size w w' := by
  have b0 := (Below.refl w.heap.size w).alloc (Nat.le_refl _) (.cells #[.int .i64 m.l, .int .i64 m.r, .int .i64 m.i] 39)
  have p0 := MgAt.new w m 39
  have hf0 := hf.below b0 hf.lt
  have hs : MSP w (some ⟨g, 0, none⟩) l := MSP.of_block hf
  have hsame := sameM_any (some ⟨g, 0, none⟩) a (l.length + 80) cap l (w.alloc (.cells #[.int .i64 m.l, .int .i64 m.r, .int .i64 m.i] 39)) (by omega) (hs.below b0) (h.below b0)
  have hne : (((l.length : Int) + 80) != ((l.length : Int) + 80)) = false := by simp
  have HE := eqIn_mg m m true (mgEq_self m)
  have HF := neq_mg m m false (by rw [mgEq_self]; rfl)
  clear hf h hs
  unfold mgV
  go_enter Tryz.func29, Tryz.ntmps29
  go_wp2_with fail
  refine hsame.mono ?_
  rintro e w1 ⟨rfl, hb1⟩
  have hf1 := hf0.below hb1 hf0.lt
  have p1 := p0.below hb1
  have B1 := b0.trans (hb1.mono b0.size)
  clear hsame hb1 hf0 p0 b0
  go_wp2_with fail
  go_loopw [7] (fun v wr => ∃ i : Nat, l.length ≤ i ∧ i ≤ l.length + 80 ∧ v = .int .i64 (i : Nat) ∧ Below w1.heap.size w1 wr) (fun v _ => 80 + l.length - (intOf v).toNat)
  case atStart => exact ⟨l.length, Nat.le_refl _, by omega, rfl, Below.refl _ _⟩
  case round =>
    obtain ⟨i, hi1, hi2, rfl, hbr⟩ := hrel
    by_cases hlt : i < l.length + 80
    · have hx := fillM_get l m 80 (i - l.length) (by omega)
      rw [show l.length + (i - l.length) = i by omega] at hx
      have c0 := (hf1.cell (i * 3)).trans (cellsM_get _ _ _ hx).1
      have c1 := (hf1.cell (i * 3 + 1)).trans (cellsM_get _ _ _ hx).2.1
      have c2 := (hf1.cell (i * 3 + 2)).trans (cellsM_get _ _ _ hx).2.2
      have c0 := (hbr.cell (World.block_lt_of_cell? w1 _ c0)).trans c0
      have c1 := (hbr.cell (World.block_lt_of_cell? w1 _ c1)).trans c1
      have c2 := (hbr.cell (World.block_lt_of_cell? w1 _ c2)).trans c2
      obtain ⟨m0, m1, m2⟩ := p1.below hbr
      rw [Nat.zero_add] at m1 m2
      have hd : decide ((i : Int) < (l.length : Int) + 80) = true := decide_eq_true (by omega)
      clear hx hf1
      go_wp2_with fail
      go_quiet (fail)
      go_wp2_with fail
      exact ⟨⟨i + 1, by omega, by omega, by go_num, below_drewN hbr nq⟩, by simp only [intOf]; omega⟩
    · have hi80 : i = l.length + 80 := by omega
      subst hi80
      go_wp2_with fail
      go_ret
      exact ⟨rfl, B1.trans (hbr.mono B1.size)⟩
def behind : ByteArray := ⟨#[98, 101, 104, 105, 110, 100]⟩
theorem set_other {w : World} {b o k : Nat} (h : k ≠ b) (v : Value) : (w.setCell ⟨b, o, none⟩ v).heap[k]? = w.heap[k]? := Below.heap_setCell _ _ _ k (fun e => h e)
theorem Blk.set {w : World} {g : Nat} {cs : Array Value} {t : TypeId} (h : Blk w g (.cells cs t (0, 0))) (i : Nat) (v : Value) : Blk (w.setCell ⟨g, i, none⟩ v) g (.cells (cs.setIfInBounds i v) t (0, 0)) := block_setCell h v
theorem Blk.other {w : World} {g b o : Nat} {x : Obj} (h : Blk w g x) (hb : g ≠ b) (v : Value) : Blk (w.setCell ⟨b, o, none⟩ v) g x := (set_other hb v).trans h
theorem OwnPw.other {w : World} {g b o : Nat} {x : List Value} (h : OwnPw w g x) (hb : g ≠ b) (v : Value) : OwnPw (w.setCell ⟨b, o, none⟩ v) g x := (set_other hb v).trans h
theorem OwnPm.other {w : World} {g b o : Nat} {x : List Value} (h : OwnPm w g x) (hb : g ≠ b) (v : Value) : OwnPm (w.setCell ⟨b, o, none⟩ v) g x := (set_other hb v).trans h
theorem OwnP.other {w : World} {g b o : Nat} {x : List Value} (h : OwnP w g x) (hb : g ≠ b) (v : Value) : OwnP (w.setCell ⟨b, o, none⟩ v) g x := (set_other hb v).trans h
/-- What Handed leaves. -/
def HandedP (aw am a b c : Option Addr) (cw cm ca cb cc : Nat) (ws : List ByteArray) (ms : List Mg) (A B C : List Sp) (w : World) (e : Ending) (w' : World) : Prop :=
  ∃ g0 g1 g2 g3 g4 gf, e = .returned (.tuple #[.agg #[.slice (some ⟨g0, 0, none⟩) ws.length (ws.length + 80), .slice (some ⟨g1, 0, none⟩) ms.length (ms.length + 80), .slice (some ⟨g2, 0, none⟩) A.length (A.length + 80), .slice (some ⟨g3, 0, none⟩) B.length (B.length + 80), .slice (some ⟨g4, 0, none⟩) C.length (C.length + 80)], .pointer (some ⟨gf, 0, none⟩)]) ∧ OwnPw w' g0 (cellsW (fillW ws behind 80)) ∧ OwnPm w' g1 (cellsM (fillM ms ⟨-7, 0, 0⟩ 80)) ∧ OwnP w' g2 (cellsS (fillS A ⟨-7, 0⟩ 80)) ∧ OwnP w' g3 (cellsS (fillS B ⟨-7, 0⟩ 80)) ∧ OwnP w' g4 (cellsS (fillS C ⟨-7, 0⟩ 80)) ∧ Blk w' gf (.cells #[.slice aw ws.length cw, .slice am ms.length cm, .slice a A.length ca, .slice b B.length cb, .slice c C.length cc, .slice (some ⟨g0, 0, none⟩) (ws.length + 80) (ws.length + 80), .slice (some ⟨g1, 0, none⟩) (ms.length + 80) (ms.length + 80), .slice (some ⟨g2, 0, none⟩) (A.length + 80) (A.length + 80), .slice (some ⟨g3, 0, none⟩) (B.length + 80) (B.length + 80), .slice (some ⟨g4, 0, none⟩) (C.length + 80) (C.length + 80)] 46 (0, 0)) ∧ Below w.heap.size w w'
set_option maxRecDepth 100000 in
set_option maxHeartbeats 4000000 in
theorem handed_any (aw am a b c : Option Addr) (cw cm ca cb cc : Nat) (ws : List ByteArray) (ms : List Mg) (A B C : List Sp) (w : World) (hn : ws.length ≤ 8796093022208 ∧ ms.length ≤ 5864062014805 ∧ A.length ≤ 17592186044416 ∧ B.length ≤ 17592186044416 ∧ C.length ≤ 17592186044416) (hW : WSP w aw ws) (hM : MSP w am ms) (hA : SPS w a A) (hB : SPS w b B) (hC : SPS w c C) :
    Calls Tryz.prog 5 #[.agg #[.slice aw ws.length cw, .slice am ms.length cm, .slice a A.length ca, .slice b B.length cb, .slice c C.length cc]] w fun e w' => HandedP aw am a b c cw cm ca cb cc ws ms A B C w e w' := by
  have hD := DBox.new w (.slice aw ws.length cw) (.slice am ms.length cm) (.slice a A.length ca) (.slice b B.length cb) (.slice c C.length cc)
  have b1 := box_below w (.cells #[.slice aw ws.length cw, .slice am ms.length cm, .slice a A.length ca, .slice b B.length cb, .slice c C.length cc] 26)
  have b2 := box_below (w.alloc (.cells #[.slice aw ws.length cw, .slice am ms.length cm, .slice a A.length ca, .slice b B.length cb, .slice c C.length cc] 26)) (.cells #[.slice none 0 0, .slice none 0 0, .slice none 0 0, .slice none 0 0, .slice none 0 0] 26)
  have b3 := box_below ((w.alloc (.cells #[.slice aw ws.length cw, .slice am ms.length cm, .slice a A.length ca, .slice b B.length cb, .slice c C.length cc] 26)).alloc (.cells #[.slice none 0 0, .slice none 0 0, .slice none 0 0, .slice none 0 0, .slice none 0 0] 26)) (.cells #[.slice aw ws.length cw, .slice am ms.length cm, .slice a A.length ca, .slice b B.length cb, .slice c C.length cc, .slice none 0 0, .slice none 0 0, .slice none 0 0, .slice none 0 0, .slice none 0 0] 46)
  have hR := Blk.new (w.alloc (.cells #[.slice aw ws.length cw, .slice am ms.length cm, .slice a A.length ca, .slice b B.length cb, .slice c C.length cc] 26)) (.cells #[.slice none 0 0, .slice none 0 0, .slice none 0 0, .slice none 0 0, .slice none 0 0] 26)
  have hF := Blk.new ((w.alloc (.cells #[.slice aw ws.length cw, .slice am ms.length cm, .slice a A.length ca, .slice b B.length cb, .slice c C.length cc] 26)).alloc (.cells #[.slice none 0 0, .slice none 0 0, .slice none 0 0, .slice none 0 0, .slice none 0 0] 26)) (.cells #[.slice aw ws.length cw, .slice am ms.length cm, .slice a A.length ca, .slice b B.length cb, .slice c C.length cc, .slice none 0 0, .slice none 0 0, .slice none 0 0, .slice none 0 0, .slice none 0 0] 46)
  have e1 : (w.alloc (.cells #[.slice aw ws.length cw, .slice am ms.length cm, .slice a A.length ca, .slice b B.length cb, .slice c C.length cc] 26)).heap.size = w.heap.size + 1 := by simp
  have e2 : ((w.alloc (.cells #[.slice aw ws.length cw, .slice am ms.length cm, .slice a A.length ca, .slice b B.length cb, .slice c C.length cc] 26)).alloc (.cells #[.slice none 0 0, .slice none 0 0, .slice none 0 0, .slice none 0 0, .slice none 0 0] 26)).heap.size = w.heap.size + 1 + 1 := by simp
  have hD3 := (hD.below b2 hD.lt).below b3 (by rw [e2]; omega)
  have hR3 := hR.below b3 (by rw [e1, e2]; omega)
  have B3 := (b1.trans (b2.mono b1.size)).trans (b3.mono (by rw [e2]; omega))
  have e3 : (((w.alloc (.cells #[.slice aw ws.length cw, .slice am ms.length cm, .slice a A.length ca, .slice b B.length cb, .slice c C.length cc] 26)).alloc (.cells #[.slice none 0 0, .slice none 0 0, .slice none 0 0, .slice none 0 0, .slice none 0 0] 26)).alloc (.cells #[.slice aw ws.length cw, .slice am ms.length cm, .slice a A.length ca, .slice b B.length cb, .slice c C.length cc, .slice none 0 0, .slice none 0 0, .slice none 0 0, .slice none 0 0, .slice none 0 0] 46)).heap.size = w.heap.size + 1 + 1 + 1 := by simp
  rw [e1] at hR3
  rw [e2] at hF
  have x0 := hD3.c0
  have x1 := hD3.c1
  have x2 := hD3.c2
  have x3 := hD3.c3
  have x4 := hD3.c4
  have H0 := fun wx (hb : Below w.heap.size w wx) => roomyW_any aw cw ws behind wx hn.1 (hW.below hb)
  have H1 := fun wx (hb : Below w.heap.size w wx) => roomyM_any am cm ms ⟨-7, 0, 0⟩ wx hn.2.1 (hM.below hb)
  have H2 := fun wx (hb : Below w.heap.size w wx) => roomy_any a ca A ⟨-7, 0⟩ wx hn.2.2.1 (hA.below hb)
  have H3 := fun wx (hb : Below w.heap.size w wx) => roomy_any b cb B ⟨-7, 0⟩ wx hn.2.2.2.1 (hB.below hb)
  have H4 := fun wx (hb : Below w.heap.size w wx) => roomy_any c cc C ⟨-7, 0⟩ wx hn.2.2.2.2 (hC.below hb)
  unfold mgV at H1
  unfold spv at H2 H3 H4
  rw [show behind = ⟨#[98, 101, 104, 105, 110, 100]⟩ from rfl] at H0
  simp only [] at H1 H2 H3 H4
  clear hD b1 b2 b3 hR e1 e2 hW hM hA hB hC
  go_enter Tryz.func5, Tryz.ntmps5
  go_wp2_with fail
  obtain ⟨U0, hU0⟩ : ∃ U0, U0 = ((w.alloc (.cells #[.slice aw ws.length cw, .slice am ms.length cm, .slice a A.length ca, .slice b B.length cb, .slice c C.length cc] 26)).alloc (.cells #[.slice none 0 0, .slice none 0 0, .slice none 0 0, .slice none 0 0, .slice none 0 0] 26)).alloc (.cells #[.slice aw ws.length cw, .slice am ms.length cm, .slice a A.length ca, .slice b B.length cb, .slice c C.length cc, .slice none 0 0, .slice none 0 0, .slice none 0 0, .slice none 0 0, .slice none 0 0] 46) := ⟨_, rfl⟩
  rw [← hU0] at hD3 hR3 hF B3 e3 ⊢
  clear hU0 x0 x1 x2 x3 x4
  obtain ⟨z, hz⟩ : ∃ z, z = w.heap.size := ⟨_, rfl⟩
  have HZ : Hid (z = w.heap.size) := hz
  rw [← hz] at hD3 hR3 hF e3 ⊢
  clear hz
  have hs0 : z + 1 + 1 + 1 ≤ U0.heap.size := by omega
  have hD0 : DBox U0 z _ _ _ _ _ := hD3
  have hR0 : Blk U0 (z + 1) _ := hR3
  have hF0 : Blk U0 (z + 1 + 1) _ := hF
  have hB0 := B3
  clear hD3 hR3 hF B3 e3
  refine (H0 U0 hB0).mono ?_
  rintro e v0 ⟨g0, hg0, rfl, hb, ro⟩
  have hDv := hD0.below hb hD0.lt
  have hRv := hR0.up hb
  have hFv := hF0.up hb
  have hBv := hB0.trans (hb.mono hB0.size)
  have hsv := hb.size
  have f0 := hFv.cell 5
  have f1 := hFv.free 5
  have x0 := hDv.c1
  have hD1 := hDv.other (g := z + 1 + 1) (o := 5) (by omega) (.slice (some ⟨g0, 0, none⟩) (ws.length + 80) (ws.length + 80))
  have hR1 := hRv.other (b := z + 1 + 1) (o := 5) (by omega) (.slice (some ⟨g0, 0, none⟩) (ws.length + 80) (ws.length + 80))
  have hF1 := hFv.set 5 (.slice (some ⟨g0, 0, none⟩) (ws.length + 80) (ws.length + 80))
  have hB1 := hBv.setCell (p := ⟨z + 1 + 1, 5, none⟩) (show w.heap.size ≤ z + 1 + 1 by rw [HZ.out]; omega) (.slice (some ⟨g0, 0, none⟩) (ws.length + 80) (ws.length + 80))
  have r01 := ro.other (b := z + 1 + 1) (o := 5) (by omega) (.slice (some ⟨g0, 0, none⟩) (ws.length + 80) (ws.length + 80))
  have hs1 : z + 1 + 1 + 1 ≤ (v0.setCell ⟨z + 1 + 1, 5, none⟩ (.slice (some ⟨g0, 0, none⟩) (ws.length + 80) (ws.length + 80))).heap.size := by simp; omega
  have hgl0 : z + 1 + 1 < g0 := by omega
  clear H0 hDv hRv hFv hBv ro hD0 hR0 hF0 hB0  hs0 hsv hg0 hb
  have x0 := hD1.c1
  go_wp2_with fail
  obtain ⟨U1, hV⟩ : ∃ U1, U1 = v0.setCell ⟨z + 1 + 1, 5, none⟩ (.slice (some ⟨g0, 0, none⟩) (ws.length + 80) (ws.length + 80)) := ⟨_, rfl⟩
  rw [← hV] at hD1 hR1 hF1 hB1 hs1 r01 ⊢
  clear hV f0 f1 x0
  refine (H1 U1 hB1).mono ?_
  rintro e v1 ⟨g1, hg1, rfl, hb, ro⟩
  have hDv := hD1.below hb hD1.lt
  have hRv := hR1.up hb
  have hFv := hF1.up hb
  have hBv := hB1.trans (hb.mono hB1.size)
  have hsv := hb.size
  have p0 := r01.below hb r01.lt
  have f0 := hFv.cell 6
  have f1 := hFv.free 6
  have x0 := hDv.c2
  have hD2 := hDv.other (g := z + 1 + 1) (o := 6) (by omega) (.slice (some ⟨g1, 0, none⟩) (ms.length + 80) (ms.length + 80))
  have hR2 := hRv.other (b := z + 1 + 1) (o := 6) (by omega) (.slice (some ⟨g1, 0, none⟩) (ms.length + 80) (ms.length + 80))
  have hF2 := hFv.set 6 (.slice (some ⟨g1, 0, none⟩) (ms.length + 80) (ms.length + 80))
  have hB2 := hBv.setCell (p := ⟨z + 1 + 1, 6, none⟩) (show w.heap.size ≤ z + 1 + 1 by rw [HZ.out]; omega) (.slice (some ⟨g1, 0, none⟩) (ms.length + 80) (ms.length + 80))
  have r12 := ro.other (b := z + 1 + 1) (o := 6) (by omega) (.slice (some ⟨g1, 0, none⟩) (ms.length + 80) (ms.length + 80))
  have r02 := p0.other (b := z + 1 + 1) (o := 6) (by omega) (.slice (some ⟨g1, 0, none⟩) (ms.length + 80) (ms.length + 80))
  have hs2 : z + 1 + 1 + 1 ≤ (v1.setCell ⟨z + 1 + 1, 6, none⟩ (.slice (some ⟨g1, 0, none⟩) (ms.length + 80) (ms.length + 80))).heap.size := by simp; omega
  have hgl1 : z + 1 + 1 < g1 := by omega
  clear H1 hDv hRv hFv hBv ro hD1 hR1 hF1 hB1 p0 r01 hs1 hsv hg1 hb
  have x0 := hD2.c2
  go_wp2_with fail
  obtain ⟨U2, hV⟩ : ∃ U2, U2 = v1.setCell ⟨z + 1 + 1, 6, none⟩ (.slice (some ⟨g1, 0, none⟩) (ms.length + 80) (ms.length + 80)) := ⟨_, rfl⟩
  rw [← hV] at hD2 hR2 hF2 hB2 hs2 r02 r12 ⊢
  clear hV f0 f1 x0
  refine (H2 U2 hB2).mono ?_
  rintro e v2 ⟨g2, hg2, rfl, hb, ro⟩
  have hDv := hD2.below hb hD2.lt
  have hRv := hR2.up hb
  have hFv := hF2.up hb
  have hBv := hB2.trans (hb.mono hB2.size)
  have hsv := hb.size
  have p0 := r02.below hb r02.lt
  have p1 := r12.below hb r12.lt
  have f0 := hFv.cell 7
  have f1 := hFv.free 7
  have x0 := hDv.c3
  have hD3 := hDv.other (g := z + 1 + 1) (o := 7) (by omega) (.slice (some ⟨g2, 0, none⟩) (A.length + 80) (A.length + 80))
  have hR3 := hRv.other (b := z + 1 + 1) (o := 7) (by omega) (.slice (some ⟨g2, 0, none⟩) (A.length + 80) (A.length + 80))
  have hF3 := hFv.set 7 (.slice (some ⟨g2, 0, none⟩) (A.length + 80) (A.length + 80))
  have hB3 := hBv.setCell (p := ⟨z + 1 + 1, 7, none⟩) (show w.heap.size ≤ z + 1 + 1 by rw [HZ.out]; omega) (.slice (some ⟨g2, 0, none⟩) (A.length + 80) (A.length + 80))
  have r23 := ro.other (b := z + 1 + 1) (o := 7) (by omega) (.slice (some ⟨g2, 0, none⟩) (A.length + 80) (A.length + 80))
  have r03 := p0.other (b := z + 1 + 1) (o := 7) (by omega) (.slice (some ⟨g2, 0, none⟩) (A.length + 80) (A.length + 80))
  have r13 := p1.other (b := z + 1 + 1) (o := 7) (by omega) (.slice (some ⟨g2, 0, none⟩) (A.length + 80) (A.length + 80))
  have hs3 : z + 1 + 1 + 1 ≤ (v2.setCell ⟨z + 1 + 1, 7, none⟩ (.slice (some ⟨g2, 0, none⟩) (A.length + 80) (A.length + 80))).heap.size := by simp; omega
  have hgl2 : z + 1 + 1 < g2 := by omega
  clear H2 hDv hRv hFv hBv ro hD2 hR2 hF2 hB2 p0 r02 p1 r12 hs2 hsv hg2 hb
  have x0 := hD3.c3
  go_wp2_with fail
  obtain ⟨U3, hV⟩ : ∃ U3, U3 = v2.setCell ⟨z + 1 + 1, 7, none⟩ (.slice (some ⟨g2, 0, none⟩) (A.length + 80) (A.length + 80)) := ⟨_, rfl⟩
  rw [← hV] at hD3 hR3 hF3 hB3 hs3 r03 r13 r23 ⊢
  clear hV f0 f1 x0
  refine (H3 U3 hB3).mono ?_
  rintro e v3 ⟨g3, hg3, rfl, hb, ro⟩
  have hDv := hD3.below hb hD3.lt
  have hRv := hR3.up hb
  have hFv := hF3.up hb
  have hBv := hB3.trans (hb.mono hB3.size)
  have hsv := hb.size
  have p0 := r03.below hb r03.lt
  have p1 := r13.below hb r13.lt
  have p2 := r23.below hb r23.lt
  have f0 := hFv.cell 8
  have f1 := hFv.free 8
  have x0 := hDv.c4
  have hD4 := hDv.other (g := z + 1 + 1) (o := 8) (by omega) (.slice (some ⟨g3, 0, none⟩) (B.length + 80) (B.length + 80))
  have hR4 := hRv.other (b := z + 1 + 1) (o := 8) (by omega) (.slice (some ⟨g3, 0, none⟩) (B.length + 80) (B.length + 80))
  have hF4 := hFv.set 8 (.slice (some ⟨g3, 0, none⟩) (B.length + 80) (B.length + 80))
  have hB4 := hBv.setCell (p := ⟨z + 1 + 1, 8, none⟩) (show w.heap.size ≤ z + 1 + 1 by rw [HZ.out]; omega) (.slice (some ⟨g3, 0, none⟩) (B.length + 80) (B.length + 80))
  have r34 := ro.other (b := z + 1 + 1) (o := 8) (by omega) (.slice (some ⟨g3, 0, none⟩) (B.length + 80) (B.length + 80))
  have r04 := p0.other (b := z + 1 + 1) (o := 8) (by omega) (.slice (some ⟨g3, 0, none⟩) (B.length + 80) (B.length + 80))
  have r14 := p1.other (b := z + 1 + 1) (o := 8) (by omega) (.slice (some ⟨g3, 0, none⟩) (B.length + 80) (B.length + 80))
  have r24 := p2.other (b := z + 1 + 1) (o := 8) (by omega) (.slice (some ⟨g3, 0, none⟩) (B.length + 80) (B.length + 80))
  have hs4 : z + 1 + 1 + 1 ≤ (v3.setCell ⟨z + 1 + 1, 8, none⟩ (.slice (some ⟨g3, 0, none⟩) (B.length + 80) (B.length + 80))).heap.size := by simp; omega
  have hgl3 : z + 1 + 1 < g3 := by omega
  clear H3 hDv hRv hFv hBv ro hD3 hR3 hF3 hB3 p0 r03 p1 r13 p2 r23 hs3 hsv hg3 hb
  have x0 := hD4.c4
  go_wp2_with fail
  obtain ⟨U4, hV⟩ : ∃ U4, U4 = v3.setCell ⟨z + 1 + 1, 8, none⟩ (.slice (some ⟨g3, 0, none⟩) (B.length + 80) (B.length + 80)) := ⟨_, rfl⟩
  rw [← hV] at hD4 hR4 hF4 hB4 hs4 r04 r14 r24 r34 ⊢
  clear hV f0 f1 x0
  refine (H4 U4 hB4).mono ?_
  rintro e v4 ⟨g4, hg4, rfl, hb, ro⟩
  have hDv := hD4.below hb hD4.lt
  have hRv := hR4.up hb
  have hFv := hF4.up hb
  have hBv := hB4.trans (hb.mono hB4.size)
  have hsv := hb.size
  have p0 := r04.below hb r04.lt
  have p1 := r14.below hb r14.lt
  have p2 := r24.below hb r24.lt
  have p3 := r34.below hb r34.lt
  have f0 := hFv.cell 9
  have f1 := hFv.free 9
  have hD5 := hDv.other (g := z + 1 + 1) (o := 9) (by omega) (.slice (some ⟨g4, 0, none⟩) (C.length + 80) (C.length + 80))
  have hR5 := hRv.other (b := z + 1 + 1) (o := 9) (by omega) (.slice (some ⟨g4, 0, none⟩) (C.length + 80) (C.length + 80))
  have hF5 := hFv.set 9 (.slice (some ⟨g4, 0, none⟩) (C.length + 80) (C.length + 80))
  have hB5 := hBv.setCell (p := ⟨z + 1 + 1, 9, none⟩) (show w.heap.size ≤ z + 1 + 1 by rw [HZ.out]; omega) (.slice (some ⟨g4, 0, none⟩) (C.length + 80) (C.length + 80))
  have r45 := ro.other (b := z + 1 + 1) (o := 9) (by omega) (.slice (some ⟨g4, 0, none⟩) (C.length + 80) (C.length + 80))
  have r05 := p0.other (b := z + 1 + 1) (o := 9) (by omega) (.slice (some ⟨g4, 0, none⟩) (C.length + 80) (C.length + 80))
  have r15 := p1.other (b := z + 1 + 1) (o := 9) (by omega) (.slice (some ⟨g4, 0, none⟩) (C.length + 80) (C.length + 80))
  have r25 := p2.other (b := z + 1 + 1) (o := 9) (by omega) (.slice (some ⟨g4, 0, none⟩) (C.length + 80) (C.length + 80))
  have r35 := p3.other (b := z + 1 + 1) (o := 9) (by omega) (.slice (some ⟨g4, 0, none⟩) (C.length + 80) (C.length + 80))
  have hs5 : z + 1 + 1 + 1 ≤ (v4.setCell ⟨z + 1 + 1, 9, none⟩ (.slice (some ⟨g4, 0, none⟩) (C.length + 80) (C.length + 80))).heap.size := by simp; omega
  have hgl4 : z + 1 + 1 < g4 := by omega
  clear H4 hDv hRv hFv hBv ro hD4 hR4 hF4 hB4 p0 r04 p1 r14 p2 r24 p3 r34 hs4 hsv hg4 hb
  go_wp2_with fail
  obtain ⟨U5, hV⟩ : ∃ U5, U5 = v4.setCell ⟨z + 1 + 1, 9, none⟩ (.slice (some ⟨g4, 0, none⟩) (C.length + 80) (C.length + 80)) := ⟨_, rfl⟩
  rw [← hV] at hD5 hR5 hF5 hB5 hs5 r05 r15 r25 r35 r45 ⊢
  clear hV f0 f1
  have x0 := hD5.c0
  have x1 := hD5.c1
  have x2 := hD5.c2
  have x3 := hD5.c3
  have x4 := hD5.c4
  have f0 := hF5.cell 5
  have f1 := hF5.cell 6
  have f2 := hF5.cell 7
  have f3 := hF5.cell 8
  have f4 := hF5.cell 9
  clear x0 x1 x2 x3 x4 f0 f1 f2 f3 f4
  refine wp_region_mono_move 41 [42, 43, 44, 45, 46, 47, 48, 49, 50, 51, 52, 53, 54, 55, 56, 57, 58, 59, 60, 61, 62, 63, 64, 65, 66, 67, 68, 69, 70, 71, 72, 73, 74, 75, 76, 77, 78, 79, 80, 81, 82] [qR (.pointer (some ⟨z + 1 + 1, 0, none⟩)),
      qR (.pointer (some ⟨z + 1 + 1, 0, none⟩)),
      qR (.pointer (some ⟨z + 1 + 1, 5, none⟩)),
      qR (.slice (some ⟨g0, 0, none⟩) (ws.length + 80) (ws.length + 80)),
      qR (.pointer (some ⟨z, 0, none⟩)),
      qR (.slice aw ws.length cw),
      qR (.int .i64 (ws.length : Nat)),
      qR (.slice (some ⟨g0, 0, none⟩) ws.length (ws.length + 80)),
      qR (.pointer (some ⟨z + 1 + 1, 0, none⟩)),
      qR (.pointer (some ⟨z + 1 + 1, 0, none⟩)),
      qR (.pointer (some ⟨z + 1 + 1, 6, none⟩)),
      qR (.slice (some ⟨g1, 0, none⟩) (ms.length + 80) (ms.length + 80)),
      qR (.pointer (some ⟨z, 1, none⟩)),
      qR (.slice am ms.length cm),
      qR (.int .i64 (ms.length : Nat)),
      qR (.slice (some ⟨g1, 0, none⟩) ms.length (ms.length + 80)),
      qR (.pointer (some ⟨z + 1 + 1, 0, none⟩)),
      qR (.pointer (some ⟨z + 1 + 1, 0, none⟩)),
      qR (.pointer (some ⟨z + 1 + 1, 7, none⟩)),
      qR (.slice (some ⟨g2, 0, none⟩) (A.length + 80) (A.length + 80)),
      qR (.pointer (some ⟨z, 2, none⟩)),
      qR (.slice a A.length ca),
      qR (.int .i64 (A.length : Nat)),
      qR (.slice (some ⟨g2, 0, none⟩) A.length (A.length + 80)),
      qR (.pointer (some ⟨z + 1 + 1, 0, none⟩)),
      qR (.pointer (some ⟨z + 1 + 1, 0, none⟩)),
      qR (.pointer (some ⟨z + 1 + 1, 8, none⟩)),
      qR (.slice (some ⟨g3, 0, none⟩) (B.length + 80) (B.length + 80)),
      qR (.pointer (some ⟨z, 3, none⟩)),
      qR (.slice b B.length cb),
      qR (.int .i64 (B.length : Nat)),
      qR (.slice (some ⟨g3, 0, none⟩) B.length (B.length + 80)),
      qR (.pointer (some ⟨z + 1 + 1, 0, none⟩)),
      qR (.pointer (some ⟨z + 1 + 1, 0, none⟩)),
      qR (.pointer (some ⟨z + 1 + 1, 9, none⟩)),
      qR (.slice (some ⟨g4, 0, none⟩) (C.length + 80) (C.length + 80)),
      qR (.pointer (some ⟨z, 4, none⟩)),
      qR (.slice c C.length cc),
      qR (.int .i64 (C.length : Nat)),
      qR (.slice (some ⟨g4, 0, none⟩) C.length (C.length + 80)),
      qR (.agg #[.slice (some ⟨g0, 0, none⟩) ws.length (ws.length + 80), .slice (some ⟨g1, 0, none⟩) ms.length (ms.length + 80), .slice (some ⟨g2, 0, none⟩) A.length (A.length + 80), .slice (some ⟨g3, 0, none⟩) B.length (B.length + 80), .slice (some ⟨g4, 0, none⟩) C.length (C.length + 80)])] rfl rfl rfl (by kernel_rfl) (by kernel_rfl) rfl (by kernel_rfl) (by kernel_rfl) (by kernel_rfl) (fun _ _ _ _ h => h) rfl ?stab ?steps ?fin
  case stab =>
    intro φ hφ
    simp only [List.mem_cons, List.not_mem_nil, or_false] at hφ
    rcases hφ with rfl | rfl | rfl | rfl | rfl | rfl | rfl | rfl | rfl | rfl | rfl | rfl | rfl | rfl | rfl | rfl | rfl | rfl | rfl | rfl | rfl | rfl | rfl | rfl | rfl | rfl | rfl | rfl | rfl | rfl | rfl | rfl | rfl | rfl | rfl | rfl | rfl | rfl | rfl | rfl | rfl
    · exact fun _ _ _ _ h => h
    · exact fun _ _ _ _ h => h
    · exact fun _ _ _ _ h => h
    · exact fun _ _ _ _ h => h
    · exact fun _ _ _ _ h => h
    · exact fun _ _ _ _ h => h
    · exact fun _ _ _ _ h => h
    · exact fun _ _ _ _ h => h
    · exact fun _ _ _ _ h => h
    · exact fun _ _ _ _ h => h
    · exact fun _ _ _ _ h => h
    · exact fun _ _ _ _ h => h
    · exact fun _ _ _ _ h => h
    · exact fun _ _ _ _ h => h
    · exact fun _ _ _ _ h => h
    · exact fun _ _ _ _ h => h
    · exact fun _ _ _ _ h => h
    · exact fun _ _ _ _ h => h
    · exact fun _ _ _ _ h => h
    · exact fun _ _ _ _ h => h
    · exact fun _ _ _ _ h => h
    · exact fun _ _ _ _ h => h
    · exact fun _ _ _ _ h => h
    · exact fun _ _ _ _ h => h
    · exact fun _ _ _ _ h => h
    · exact fun _ _ _ _ h => h
    · exact fun _ _ _ _ h => h
    · exact fun _ _ _ _ h => h
    · exact fun _ _ _ _ h => h
    · exact fun _ _ _ _ h => h
    · exact fun _ _ _ _ h => h
    · exact fun _ _ _ _ h => h
    · exact fun _ _ _ _ h => h
    · exact fun _ _ _ _ h => h
    · exact fun _ _ _ _ h => h
    · exact fun _ _ _ _ h => h
    · exact fun _ _ _ _ h => h
    · exact fun _ _ _ _ h => h
    · exact fun _ _ _ _ h => h
    · exact fun _ _ _ _ h => h
    · exact fun _ _ _ _ h => h
  case steps =>
    have hBx : ∀ wx, Below U5.drew.heap.size U5.drew wx → Below U5.heap.size U5 wx := fun wx hb => ⟨hb.os, hb.tape, hb.output, hb.size, hb.block⟩
    refine ⟨?_, ?_, ?_, ?_, ?_, ?_, ?_, ?_, ?_, ?_, ?_, ?_, ?_, ?_, ?_, ?_, ?_, ?_, ?_, ?_, ?_, ?_, ?_, ?_, ?_, ?_, ?_, ?_, ?_, ?_, ?_, ?_, ?_, ?_, ?_, ?_, ?_, ?_, ?_, ?_, ?_, trivial⟩
    · intro a' he wx hb hd
      have e0 : a'.eval (.tmp 4) = .pointer (some ⟨z + 1 + 1, 0, none⟩) := he.get rfl
      exact mStep_read rfl (by simp [execOp, e0]) rfl
    · intro a' he wx hb hd
      have e0 : a'.eval (.tmp 42) = .pointer (some ⟨z + 1 + 1, 0, none⟩) := hd 0 rfl _ _ rfl rfl
      refine mStep_read rfl ?_ rfl
      simp only [execOp, e0]
      go_simp
    · intro a' he wx hb hd
      have e0 : a'.eval (.tmp 43) = .pointer (some ⟨z + 1 + 1, 0, none⟩) := hd 1 rfl _ _ rfl rfl
      refine mStep_read rfl ?_ rfl
      simp only [execOp, e0]
      go_simp
    · intro a' he wx hb hd
      have e0 : a'.eval (.tmp 44) = .pointer (some ⟨z + 1 + 1, 5, none⟩) := hd 2 rfl _ _ rfl rfl
      have c := (hF5.up (hBx wx hb)).cell 5
      refine mStep_read rfl ?_ rfl
      simp only [execOp, e0]
      go_simp
    · intro a' he wx hb hd
      have e0 : a'.eval (.tmp 1) = .pointer (some ⟨z, 0, none⟩) := he.get rfl
      refine mStep_read rfl ?_ rfl
      simp only [execOp, e0]
      go_simp
    · intro a' he wx hb hd
      have e0 : a'.eval (.tmp 46) = .pointer (some ⟨z, 0, none⟩) := hd 4 rfl _ _ rfl rfl
      have c := (hD5.below (hBx wx hb) hD5.lt).c0
      refine mStep_read rfl ?_ rfl
      simp only [execOp, e0]
      go_simp
    · intro a' he wx hb hd
      have e0 : a'.eval (.tmp 47) = .slice aw ws.length cw := hd 5 rfl _ _ rfl rfl
      refine mStep_read rfl ?_ rfl
      simp [execOp, e0, resolve]
      go_simp
    · intro a' he wx hb hd
      have e0 : a'.eval (.tmp 45) = .slice (some ⟨g0, 0, none⟩) (ws.length + 80) (ws.length + 80) := hd 3 rfl _ _ rfl rfl
      have e1 : a'.eval (.tmp 48) = .int .i64 (ws.length : Nat) := hd 6 rfl _ _ rfl rfl
      refine mStep_read rfl ?_ rfl
      simp only [execOp, Option.map_some, Option.map_none, e0, e1]
      go_simp
      intro hh
      omega
    · intro a' he wx hb hd
      have e0 : a'.eval (.tmp 4) = .pointer (some ⟨z + 1 + 1, 0, none⟩) := he.get rfl
      exact mStep_read rfl (by simp [execOp, e0]) rfl
    · intro a' he wx hb hd
      have e0 : a'.eval (.tmp 50) = .pointer (some ⟨z + 1 + 1, 0, none⟩) := hd 8 rfl _ _ rfl rfl
      refine mStep_read rfl ?_ rfl
      simp only [execOp, e0]
      go_simp
    · intro a' he wx hb hd
      have e0 : a'.eval (.tmp 51) = .pointer (some ⟨z + 1 + 1, 0, none⟩) := hd 9 rfl _ _ rfl rfl
      refine mStep_read rfl ?_ rfl
      simp only [execOp, e0]
      go_simp
    · intro a' he wx hb hd
      have e0 : a'.eval (.tmp 52) = .pointer (some ⟨z + 1 + 1, 6, none⟩) := hd 10 rfl _ _ rfl rfl
      have c := (hF5.up (hBx wx hb)).cell 6
      refine mStep_read rfl ?_ rfl
      simp only [execOp, e0]
      go_simp
    · intro a' he wx hb hd
      have e0 : a'.eval (.tmp 1) = .pointer (some ⟨z, 0, none⟩) := he.get rfl
      refine mStep_read rfl ?_ rfl
      simp only [execOp, e0]
      go_simp
    · intro a' he wx hb hd
      have e0 : a'.eval (.tmp 54) = .pointer (some ⟨z, 1, none⟩) := hd 12 rfl _ _ rfl rfl
      have c := (hD5.below (hBx wx hb) hD5.lt).c1
      refine mStep_read rfl ?_ rfl
      simp only [execOp, e0]
      go_simp
    · intro a' he wx hb hd
      have e0 : a'.eval (.tmp 55) = .slice am ms.length cm := hd 13 rfl _ _ rfl rfl
      refine mStep_read rfl ?_ rfl
      simp [execOp, e0, resolve]
      go_simp
    · intro a' he wx hb hd
      have e0 : a'.eval (.tmp 53) = .slice (some ⟨g1, 0, none⟩) (ms.length + 80) (ms.length + 80) := hd 11 rfl _ _ rfl rfl
      have e1 : a'.eval (.tmp 56) = .int .i64 (ms.length : Nat) := hd 14 rfl _ _ rfl rfl
      refine mStep_read rfl ?_ rfl
      simp only [execOp, Option.map_some, Option.map_none, e0, e1]
      go_simp
      intro hh
      omega
    · intro a' he wx hb hd
      have e0 : a'.eval (.tmp 4) = .pointer (some ⟨z + 1 + 1, 0, none⟩) := he.get rfl
      exact mStep_read rfl (by simp [execOp, e0]) rfl
    · intro a' he wx hb hd
      have e0 : a'.eval (.tmp 58) = .pointer (some ⟨z + 1 + 1, 0, none⟩) := hd 16 rfl _ _ rfl rfl
      refine mStep_read rfl ?_ rfl
      simp only [execOp, e0]
      go_simp
    · intro a' he wx hb hd
      have e0 : a'.eval (.tmp 59) = .pointer (some ⟨z + 1 + 1, 0, none⟩) := hd 17 rfl _ _ rfl rfl
      refine mStep_read rfl ?_ rfl
      simp only [execOp, e0]
      go_simp
    · intro a' he wx hb hd
      have e0 : a'.eval (.tmp 60) = .pointer (some ⟨z + 1 + 1, 7, none⟩) := hd 18 rfl _ _ rfl rfl
      have c := (hF5.up (hBx wx hb)).cell 7
      refine mStep_read rfl ?_ rfl
      simp only [execOp, e0]
      go_simp
    · intro a' he wx hb hd
      have e0 : a'.eval (.tmp 1) = .pointer (some ⟨z, 0, none⟩) := he.get rfl
      refine mStep_read rfl ?_ rfl
      simp only [execOp, e0]
      go_simp
    · intro a' he wx hb hd
      have e0 : a'.eval (.tmp 62) = .pointer (some ⟨z, 2, none⟩) := hd 20 rfl _ _ rfl rfl
      have c := (hD5.below (hBx wx hb) hD5.lt).c2
      refine mStep_read rfl ?_ rfl
      simp only [execOp, e0]
      go_simp
    · intro a' he wx hb hd
      have e0 : a'.eval (.tmp 63) = .slice a A.length ca := hd 21 rfl _ _ rfl rfl
      refine mStep_read rfl ?_ rfl
      simp [execOp, e0, resolve]
      go_simp
    · intro a' he wx hb hd
      have e0 : a'.eval (.tmp 61) = .slice (some ⟨g2, 0, none⟩) (A.length + 80) (A.length + 80) := hd 19 rfl _ _ rfl rfl
      have e1 : a'.eval (.tmp 64) = .int .i64 (A.length : Nat) := hd 22 rfl _ _ rfl rfl
      refine mStep_read rfl ?_ rfl
      simp only [execOp, Option.map_some, Option.map_none, e0, e1]
      go_simp
      intro hh
      omega
    · intro a' he wx hb hd
      have e0 : a'.eval (.tmp 4) = .pointer (some ⟨z + 1 + 1, 0, none⟩) := he.get rfl
      exact mStep_read rfl (by simp [execOp, e0]) rfl
    · intro a' he wx hb hd
      have e0 : a'.eval (.tmp 66) = .pointer (some ⟨z + 1 + 1, 0, none⟩) := hd 24 rfl _ _ rfl rfl
      refine mStep_read rfl ?_ rfl
      simp only [execOp, e0]
      go_simp
    · intro a' he wx hb hd
      have e0 : a'.eval (.tmp 67) = .pointer (some ⟨z + 1 + 1, 0, none⟩) := hd 25 rfl _ _ rfl rfl
      refine mStep_read rfl ?_ rfl
      simp only [execOp, e0]
      go_simp
    · intro a' he wx hb hd
      have e0 : a'.eval (.tmp 68) = .pointer (some ⟨z + 1 + 1, 8, none⟩) := hd 26 rfl _ _ rfl rfl
      have c := (hF5.up (hBx wx hb)).cell 8
      refine mStep_read rfl ?_ rfl
      simp only [execOp, e0]
      go_simp
    · intro a' he wx hb hd
      have e0 : a'.eval (.tmp 1) = .pointer (some ⟨z, 0, none⟩) := he.get rfl
      refine mStep_read rfl ?_ rfl
      simp only [execOp, e0]
      go_simp
    · intro a' he wx hb hd
      have e0 : a'.eval (.tmp 70) = .pointer (some ⟨z, 3, none⟩) := hd 28 rfl _ _ rfl rfl
      have c := (hD5.below (hBx wx hb) hD5.lt).c3
      refine mStep_read rfl ?_ rfl
      simp only [execOp, e0]
      go_simp
    · intro a' he wx hb hd
      have e0 : a'.eval (.tmp 71) = .slice b B.length cb := hd 29 rfl _ _ rfl rfl
      refine mStep_read rfl ?_ rfl
      simp [execOp, e0, resolve]
      go_simp
    · intro a' he wx hb hd
      have e0 : a'.eval (.tmp 69) = .slice (some ⟨g3, 0, none⟩) (B.length + 80) (B.length + 80) := hd 27 rfl _ _ rfl rfl
      have e1 : a'.eval (.tmp 72) = .int .i64 (B.length : Nat) := hd 30 rfl _ _ rfl rfl
      refine mStep_read rfl ?_ rfl
      simp only [execOp, Option.map_some, Option.map_none, e0, e1]
      go_simp
      intro hh
      omega
    · intro a' he wx hb hd
      have e0 : a'.eval (.tmp 4) = .pointer (some ⟨z + 1 + 1, 0, none⟩) := he.get rfl
      exact mStep_read rfl (by simp [execOp, e0]) rfl
    · intro a' he wx hb hd
      have e0 : a'.eval (.tmp 74) = .pointer (some ⟨z + 1 + 1, 0, none⟩) := hd 32 rfl _ _ rfl rfl
      refine mStep_read rfl ?_ rfl
      simp only [execOp, e0]
      go_simp
    · intro a' he wx hb hd
      have e0 : a'.eval (.tmp 75) = .pointer (some ⟨z + 1 + 1, 0, none⟩) := hd 33 rfl _ _ rfl rfl
      refine mStep_read rfl ?_ rfl
      simp only [execOp, e0]
      go_simp
    · intro a' he wx hb hd
      have e0 : a'.eval (.tmp 76) = .pointer (some ⟨z + 1 + 1, 9, none⟩) := hd 34 rfl _ _ rfl rfl
      have c := (hF5.up (hBx wx hb)).cell 9
      refine mStep_read rfl ?_ rfl
      simp only [execOp, e0]
      go_simp
    · intro a' he wx hb hd
      have e0 : a'.eval (.tmp 1) = .pointer (some ⟨z, 0, none⟩) := he.get rfl
      refine mStep_read rfl ?_ rfl
      simp only [execOp, e0]
      go_simp
    · intro a' he wx hb hd
      have e0 : a'.eval (.tmp 78) = .pointer (some ⟨z, 4, none⟩) := hd 36 rfl _ _ rfl rfl
      have c := (hD5.below (hBx wx hb) hD5.lt).c4
      refine mStep_read rfl ?_ rfl
      simp only [execOp, e0]
      go_simp
    · intro a' he wx hb hd
      have e0 : a'.eval (.tmp 79) = .slice c C.length cc := hd 37 rfl _ _ rfl rfl
      refine mStep_read rfl ?_ rfl
      simp [execOp, e0, resolve]
      go_simp
    · intro a' he wx hb hd
      have e0 : a'.eval (.tmp 77) = .slice (some ⟨g4, 0, none⟩) (C.length + 80) (C.length + 80) := hd 35 rfl _ _ rfl rfl
      have e1 : a'.eval (.tmp 80) = .int .i64 (C.length : Nat) := hd 38 rfl _ _ rfl rfl
      refine mStep_read rfl ?_ rfl
      simp only [execOp, Option.map_some, Option.map_none, e0, e1]
      go_simp
      intro hh
      omega
    · intro a' he wx hb hd
      have e0 : a'.eval (.tmp 49) = .slice (some ⟨g0, 0, none⟩) ws.length (ws.length + 80) := hd 7 rfl _ _ rfl rfl
      have e1 : a'.eval (.tmp 57) = .slice (some ⟨g1, 0, none⟩) ms.length (ms.length + 80) := hd 15 rfl _ _ rfl rfl
      have e2 : a'.eval (.tmp 65) = .slice (some ⟨g2, 0, none⟩) A.length (A.length + 80) := hd 23 rfl _ _ rfl rfl
      have e3 : a'.eval (.tmp 73) = .slice (some ⟨g3, 0, none⟩) B.length (B.length + 80) := hd 31 rfl _ _ rfl rfl
      have e4 : a'.eval (.tmp 81) = .slice (some ⟨g4, 0, none⟩) C.length (C.length + 80) := hd 39 rfl _ _ rfl rfl
      refine mStep_read rfl ?_ rfl
      first | (simp [execOp, e0, e1, e2, e3, e4]; done) | (simp [execOp, e0, e1, e2, e3, e4]; go_simp; done) | (simp [execOp, e0, e1, e2, e3, e4, resolve]; go_simp; done) | (simp only [execOp, e0, e1, e2, e3, e4]; go_simp)
  case fin =>
    rintro wx hb _ rfl _ rfl _ rfl _ rfl _ rfl _ rfl _ rfl _ rfl _ rfl _ rfl _ rfl _ rfl _ rfl _ rfl _ rfl _ rfl _ rfl _ rfl _ rfl _ rfl _ rfl _ rfl _ rfl _ rfl _ rfl _ rfl _ rfl _ rfl _ rfl _ rfl _ rfl _ rfl _ rfl _ rfl _ rfl _ rfl _ rfl _ rfl _ rfl _ rfl _ rfl
    simp only [finV, Act.put, List.setIfInBounds_toArray, List.set_cons_succ, List.set_cons_zero, List.drop_succ_cons, List.drop_zero]
    have hbd : Below U5.heap.size U5 wx := ⟨hb.os, hb.tape, hb.output, hb.size, hb.block⟩
    have hR6 := hR5.up hbd
    have hF6 := hF5.up hbd
    have hB6 := hB5.trans (hbd.mono hB5.size)
    have q0 := r05.below hbd r05.lt
    have q1 := r15.below hbd r15.lt
    have q2 := r25.below hbd r25.lt
    have q3 := r35.below hbd r35.lt
    have q4 := r45.below hbd r45.lt
    have z0 := hR6.cell 0
    have z1 := hR6.cell 1
    have z2 := hR6.cell 2
    have z3 := hR6.cell 3
    have z4 := hR6.cell 4
    have zf := fun j => hR6.free j
    clear hbd hb hD5 hR5 hF5 hB5 r05 r15 r25 r35 r45
    go_wp2_with fail
    have hX : DBox wx (z + 1) _ _ _ _ _ := hR6
    have hY := ((((hX.s0 (.slice (some ⟨g0, 0, none⟩) ws.length (ws.length + 80))).s1 (.slice (some ⟨g1, 0, none⟩) ms.length (ms.length + 80))).s2 (.slice (some ⟨g2, 0, none⟩) A.length (A.length + 80))).s3 (.slice (some ⟨g3, 0, none⟩) B.length (B.length + 80))).s4 (.slice (some ⟨g4, 0, none⟩) C.length (C.length + 80))
    have hB7 := ((((hB6.setCell (p := ⟨z + 1, 0, none⟩) (show w.heap.size ≤ z + 1 by rw [HZ.out]; omega) (.slice (some ⟨g0, 0, none⟩) ws.length (ws.length + 80))).setCell (p := ⟨z + 1, 1, none⟩) (show w.heap.size ≤ z + 1 by rw [HZ.out]; omega) (.slice (some ⟨g1, 0, none⟩) ms.length (ms.length + 80))).setCell (p := ⟨z + 1, 2, none⟩) (show w.heap.size ≤ z + 1 by rw [HZ.out]; omega) (.slice (some ⟨g2, 0, none⟩) A.length (A.length + 80))).setCell (p := ⟨z + 1, 3, none⟩) (show w.heap.size ≤ z + 1 by rw [HZ.out]; omega) (.slice (some ⟨g3, 0, none⟩) B.length (B.length + 80))).setCell (p := ⟨z + 1, 4, none⟩) (show w.heap.size ≤ z + 1 by rw [HZ.out]; omega) (.slice (some ⟨g4, 0, none⟩) C.length (C.length + 80))
    have s0 := ((((q0.other (b := z + 1) (o := 0) (by omega) (.slice (some ⟨g0, 0, none⟩) ws.length (ws.length + 80))).other (b := z + 1) (o := 1) (by omega) (.slice (some ⟨g1, 0, none⟩) ms.length (ms.length + 80))).other (b := z + 1) (o := 2) (by omega) (.slice (some ⟨g2, 0, none⟩) A.length (A.length + 80))).other (b := z + 1) (o := 3) (by omega) (.slice (some ⟨g3, 0, none⟩) B.length (B.length + 80))).other (b := z + 1) (o := 4) (by omega) (.slice (some ⟨g4, 0, none⟩) C.length (C.length + 80))
    have s1 := ((((q1.other (b := z + 1) (o := 0) (by omega) (.slice (some ⟨g0, 0, none⟩) ws.length (ws.length + 80))).other (b := z + 1) (o := 1) (by omega) (.slice (some ⟨g1, 0, none⟩) ms.length (ms.length + 80))).other (b := z + 1) (o := 2) (by omega) (.slice (some ⟨g2, 0, none⟩) A.length (A.length + 80))).other (b := z + 1) (o := 3) (by omega) (.slice (some ⟨g3, 0, none⟩) B.length (B.length + 80))).other (b := z + 1) (o := 4) (by omega) (.slice (some ⟨g4, 0, none⟩) C.length (C.length + 80))
    have s2 := ((((q2.other (b := z + 1) (o := 0) (by omega) (.slice (some ⟨g0, 0, none⟩) ws.length (ws.length + 80))).other (b := z + 1) (o := 1) (by omega) (.slice (some ⟨g1, 0, none⟩) ms.length (ms.length + 80))).other (b := z + 1) (o := 2) (by omega) (.slice (some ⟨g2, 0, none⟩) A.length (A.length + 80))).other (b := z + 1) (o := 3) (by omega) (.slice (some ⟨g3, 0, none⟩) B.length (B.length + 80))).other (b := z + 1) (o := 4) (by omega) (.slice (some ⟨g4, 0, none⟩) C.length (C.length + 80))
    have s3 := ((((q3.other (b := z + 1) (o := 0) (by omega) (.slice (some ⟨g0, 0, none⟩) ws.length (ws.length + 80))).other (b := z + 1) (o := 1) (by omega) (.slice (some ⟨g1, 0, none⟩) ms.length (ms.length + 80))).other (b := z + 1) (o := 2) (by omega) (.slice (some ⟨g2, 0, none⟩) A.length (A.length + 80))).other (b := z + 1) (o := 3) (by omega) (.slice (some ⟨g3, 0, none⟩) B.length (B.length + 80))).other (b := z + 1) (o := 4) (by omega) (.slice (some ⟨g4, 0, none⟩) C.length (C.length + 80))
    have s4 := ((((q4.other (b := z + 1) (o := 0) (by omega) (.slice (some ⟨g0, 0, none⟩) ws.length (ws.length + 80))).other (b := z + 1) (o := 1) (by omega) (.slice (some ⟨g1, 0, none⟩) ms.length (ms.length + 80))).other (b := z + 1) (o := 2) (by omega) (.slice (some ⟨g2, 0, none⟩) A.length (A.length + 80))).other (b := z + 1) (o := 3) (by omega) (.slice (some ⟨g3, 0, none⟩) B.length (B.length + 80))).other (b := z + 1) (o := 4) (by omega) (.slice (some ⟨g4, 0, none⟩) C.length (C.length + 80))
    have hF7 := ((((hF6.other (b := z + 1) (o := 0) (by omega) (.slice (some ⟨g0, 0, none⟩) ws.length (ws.length + 80))).other (b := z + 1) (o := 1) (by omega) (.slice (some ⟨g1, 0, none⟩) ms.length (ms.length + 80))).other (b := z + 1) (o := 2) (by omega) (.slice (some ⟨g2, 0, none⟩) A.length (A.length + 80))).other (b := z + 1) (o := 3) (by omega) (.slice (some ⟨g3, 0, none⟩) B.length (B.length + 80))).other (b := z + 1) (o := 4) (by omega) (.slice (some ⟨g4, 0, none⟩) C.length (C.length + 80))
    have t0 := hY.c0
    have t1 := hY.c1
    have t2 := hY.c2
    have t3 := hY.c3
    have t4 := hY.c4
    exact bodyPost_ret (v := .tuple #[.agg #[.slice (some ⟨g0, 0, none⟩) ws.length (ws.length + 80), .slice (some ⟨g1, 0, none⟩) ms.length (ms.length + 80), .slice (some ⟨g2, 0, none⟩) A.length (A.length + 80), .slice (some ⟨g3, 0, none⟩) B.length (B.length + 80), .slice (some ⟨g4, 0, none⟩) C.length (C.length + 80)], .pointer (some ⟨z + 1 + 1, 0, none⟩)]) (by simp [results, Tryz.results5, go_sem, t0, t1, t2, t3, t4]) rfl ⟨g0, g1, g2, g3, g4, z + 1 + 1, rfl, s0, s1, s2, s3, s4, hF7, hB7⟩
set_option maxRecDepth 100000 in
set_option maxHeartbeats 4000000 in
theorem frameIntact_any (gf g0 g1 g2 g3 g4 : Nat) (aw am a b c : Option Addr) (cw cm ca cb cc : Nat) (ws : List ByteArray) (ms : List Mg) (A B C : List Sp) (w : World) (hn : ws.length ≤ 8796093022208 ∧ ms.length ≤ 5864062014805 ∧ A.length ≤ 17592186044416 ∧ B.length ≤ 17592186044416 ∧ C.length ≤ 17592186044416) (hW : WSP w aw ws) (hM : MSP w am ms) (hA : SPS w a A) (hB : SPS w b B) (hC : SPS w c C) (hF : Blk w gf (.cells #[.slice aw ws.length cw, .slice am ms.length cm, .slice a A.length ca, .slice b B.length cb, .slice c C.length cc, .slice (some ⟨g0, 0, none⟩) (ws.length + 80) (ws.length + 80), .slice (some ⟨g1, 0, none⟩) (ms.length + 80) (ms.length + 80), .slice (some ⟨g2, 0, none⟩) (A.length + 80) (A.length + 80), .slice (some ⟨g3, 0, none⟩) (B.length + 80) (B.length + 80), .slice (some ⟨g4, 0, none⟩) (C.length + 80) (C.length + 80)] 46 (0, 0)))
    (r0 : OwnPw w g0 (cellsW (fillW ws behind 80))) (r1 : OwnPm w g1 (cellsM (fillM ms ⟨-7, 0, 0⟩ 80))) (r2 : OwnP w g2 (cellsS (fillS A ⟨-7, 0⟩ 80))) (r3 : OwnP w g3 (cellsS (fillS B ⟨-7, 0⟩ 80))) (r4 : OwnP w g4 (cellsS (fillS C ⟨-7, 0⟩ 80))) :
    Calls Tryz.prog 8 #[.pointer (some ⟨gf, 0, none⟩)] w fun e w' => e = .returned (.bool true) ∧ Below w.heap.size w w' := by
  have C0 : ∀ wx, Below w.heap.size w wx → Calls Tryz.prog 28 #[.slice (some ⟨g0, 0, none⟩) (ws.length + 80) (ws.length + 80), .slice aw ws.length cw, .string ⟨#[98, 101, 104, 105, 110, 100]⟩] wx fun e w' => ∃ v, e = .returned v ∧ Below wx.heap.size wx w' ∧ qR (.bool true) v w' := fun wx hb => by
    refine (intactW_any g0 aw cw ws behind wx hn.1 (r0.below hb r0.lt) (hW.below hb)).mono ?_
    rintro e w' ⟨rfl, hb'⟩
    exact ⟨_, rfl, hb', rfl⟩
  have C1 : ∀ wx, Below w.heap.size w wx → Calls Tryz.prog 29 #[.slice (some ⟨g1, 0, none⟩) (ms.length + 80) (ms.length + 80), .slice am ms.length cm, .agg #[.int .i64 (-7), .int .i64 0, .int .i64 0]] wx fun e w' => ∃ v, e = .returned v ∧ Below wx.heap.size wx w' ∧ qR (.bool true) v w' := fun wx hb => by
    refine (intactM_any g1 am cm ms ⟨-7, 0, 0⟩ wx hn.2.1 (r1.below hb r1.lt) (hM.below hb)).mono ?_
    rintro e w' ⟨rfl, hb'⟩
    exact ⟨_, rfl, hb', rfl⟩
  have C2 : ∀ wx, Below w.heap.size w wx → Calls Tryz.prog 30 #[.slice (some ⟨g2, 0, none⟩) (A.length + 80) (A.length + 80), .slice a A.length ca, .agg #[.int .i32 (-7), .int .i32 0]] wx fun e w' => ∃ v, e = .returned v ∧ Below wx.heap.size wx w' ∧ qR (.bool true) v w' := fun wx hb => by
    refine (intact_any g2 a ca A ⟨-7, 0⟩ wx hn.2.2.1 (r2.below hb r2.lt) (hA.below hb)).mono ?_
    rintro e w' ⟨rfl, hb'⟩
    exact ⟨_, rfl, hb', rfl⟩
  have C3 : ∀ wx, Below w.heap.size w wx → Calls Tryz.prog 30 #[.slice (some ⟨g3, 0, none⟩) (B.length + 80) (B.length + 80), .slice b B.length cb, .agg #[.int .i32 (-7), .int .i32 0]] wx fun e w' => ∃ v, e = .returned v ∧ Below wx.heap.size wx w' ∧ qR (.bool true) v w' := fun wx hb => by
    refine (intact_any g3 b cb B ⟨-7, 0⟩ wx hn.2.2.2.1 (r3.below hb r3.lt) (hB.below hb)).mono ?_
    rintro e w' ⟨rfl, hb'⟩
    exact ⟨_, rfl, hb', rfl⟩
  have C4 : ∀ wx, Below w.heap.size w wx → Calls Tryz.prog 30 #[.slice (some ⟨g4, 0, none⟩) (C.length + 80) (C.length + 80), .slice c C.length cc, .agg #[.int .i32 (-7), .int .i32 0]] wx fun e w' => ∃ v, e = .returned v ∧ Below wx.heap.size wx w' ∧ qR (.bool true) v w' := fun wx hb => by
    refine (intact_any g4 c cc C ⟨-7, 0⟩ wx hn.2.2.2.2 (r4.below hb r4.lt) (hC.below hb)).mono ?_
    rintro e w' ⟨rfl, hb'⟩
    exact ⟨_, rfl, hb', rfl⟩
  have HF : Hid (Blk w gf _) := hF
  clear r0 r1 r2 r3 r4 hW hM hA hB hC hF
  go_enter Tryz.func8, Tryz.ntmps8
  go_wp2_with fail
  have hF := HF.out
  refine wp_region_mono 63 [3, 4, 5, 6, 7, 8, 9, 10, 11, 12, 13, 14, 15, 16, 17, 18, 19, 20, 21, 22, 23, 24, 25, 26, 27, 28, 29, 30, 31, 32, 33, 34, 35, 36, 37, 38, 39, 40, 41, 42, 43, 44, 45, 46, 47, 48, 49, 50, 51, 52, 53, 54, 55, 56, 57, 58, 59, 60, 61, 62, 63, 64, 2] [qR (.pointer (some ⟨gf, 0, none⟩)),
      qR (.pointer (some ⟨gf, 0, none⟩)),
      qR (.pointer (some ⟨gf, 5, none⟩)),
      qR (.slice (some ⟨g0, 0, none⟩) (ws.length + 80) (ws.length + 80)),
      qR (.pointer (some ⟨gf, 0, none⟩)),
      qR (.pointer (some ⟨gf, 0, none⟩)),
      qR (.pointer (some ⟨gf, 0, none⟩)),
      qR (.pointer (some ⟨gf, 0, none⟩)),
      qR (.slice aw ws.length cw),
      qR (.bool true),
      qR (.bool true),
      qR (.pointer (some ⟨gf, 0, none⟩)),
      qR (.pointer (some ⟨gf, 0, none⟩)),
      qR (.pointer (some ⟨gf, 6, none⟩)),
      qR (.slice (some ⟨g1, 0, none⟩) (ms.length + 80) (ms.length + 80)),
      qR (.pointer (some ⟨gf, 0, none⟩)),
      qR (.pointer (some ⟨gf, 0, none⟩)),
      qR (.pointer (some ⟨gf, 0, none⟩)),
      qR (.pointer (some ⟨gf, 1, none⟩)),
      qR (.slice am ms.length cm),
      qR (.agg #[.int .i64 (-7), .int .i64 0, .int .i64 0]),
      qR (.bool true),
      qR (.bool true),
      qR (.bool true),
      qR (.pointer (some ⟨gf, 0, none⟩)),
      qR (.pointer (some ⟨gf, 0, none⟩)),
      qR (.pointer (some ⟨gf, 7, none⟩)),
      qR (.slice (some ⟨g2, 0, none⟩) (A.length + 80) (A.length + 80)),
      qR (.pointer (some ⟨gf, 0, none⟩)),
      qR (.pointer (some ⟨gf, 0, none⟩)),
      qR (.pointer (some ⟨gf, 0, none⟩)),
      qR (.pointer (some ⟨gf, 2, none⟩)),
      qR (.slice a A.length ca),
      qR (.agg #[.int .i32 (-7), .int .i32 0]),
      qR (.bool true),
      qR (.bool true),
      qR (.bool true),
      qR (.pointer (some ⟨gf, 0, none⟩)),
      qR (.pointer (some ⟨gf, 0, none⟩)),
      qR (.pointer (some ⟨gf, 8, none⟩)),
      qR (.slice (some ⟨g3, 0, none⟩) (B.length + 80) (B.length + 80)),
      qR (.pointer (some ⟨gf, 0, none⟩)),
      qR (.pointer (some ⟨gf, 0, none⟩)),
      qR (.pointer (some ⟨gf, 0, none⟩)),
      qR (.pointer (some ⟨gf, 3, none⟩)),
      qR (.slice b B.length cb),
      qR (.agg #[.int .i32 (-7), .int .i32 0]),
      qR (.bool true),
      qR (.bool true),
      qR (.bool true),
      qR (.pointer (some ⟨gf, 0, none⟩)),
      qR (.pointer (some ⟨gf, 0, none⟩)),
      qR (.pointer (some ⟨gf, 9, none⟩)),
      qR (.slice (some ⟨g4, 0, none⟩) (C.length + 80) (C.length + 80)),
      qR (.pointer (some ⟨gf, 0, none⟩)),
      qR (.pointer (some ⟨gf, 0, none⟩)),
      qR (.pointer (some ⟨gf, 0, none⟩)),
      qR (.pointer (some ⟨gf, 4, none⟩)),
      qR (.slice c C.length cc),
      qR (.agg #[.int .i32 (-7), .int .i32 0]),
      qR (.bool true),
      qR (.bool true),
      qR (.bool true)] (by kernel_rfl) (by kernel_rfl) rfl rfl ?stab ?steps ?fin
  case stab =>
    intro φ hφ
    simp only [List.mem_cons, List.not_mem_nil, or_false] at hφ
    rcases hφ with rfl | rfl | rfl | rfl | rfl | rfl | rfl | rfl | rfl | rfl | rfl | rfl | rfl | rfl | rfl | rfl | rfl | rfl | rfl | rfl | rfl | rfl | rfl | rfl | rfl | rfl | rfl | rfl | rfl | rfl | rfl | rfl | rfl | rfl | rfl | rfl | rfl | rfl | rfl | rfl | rfl | rfl | rfl | rfl | rfl | rfl | rfl | rfl | rfl | rfl | rfl | rfl | rfl | rfl | rfl | rfl | rfl | rfl | rfl | rfl | rfl | rfl | rfl
    · exact fun _ _ _ _ h => h
    · exact fun _ _ _ _ h => h
    · exact fun _ _ _ _ h => h
    · exact fun _ _ _ _ h => h
    · exact fun _ _ _ _ h => h
    · exact fun _ _ _ _ h => h
    · exact fun _ _ _ _ h => h
    · exact fun _ _ _ _ h => h
    · exact fun _ _ _ _ h => h
    · exact fun _ _ _ _ h => h
    · exact fun _ _ _ _ h => h
    · exact fun _ _ _ _ h => h
    · exact fun _ _ _ _ h => h
    · exact fun _ _ _ _ h => h
    · exact fun _ _ _ _ h => h
    · exact fun _ _ _ _ h => h
    · exact fun _ _ _ _ h => h
    · exact fun _ _ _ _ h => h
    · exact fun _ _ _ _ h => h
    · exact fun _ _ _ _ h => h
    · exact fun _ _ _ _ h => h
    · exact fun _ _ _ _ h => h
    · exact fun _ _ _ _ h => h
    · exact fun _ _ _ _ h => h
    · exact fun _ _ _ _ h => h
    · exact fun _ _ _ _ h => h
    · exact fun _ _ _ _ h => h
    · exact fun _ _ _ _ h => h
    · exact fun _ _ _ _ h => h
    · exact fun _ _ _ _ h => h
    · exact fun _ _ _ _ h => h
    · exact fun _ _ _ _ h => h
    · exact fun _ _ _ _ h => h
    · exact fun _ _ _ _ h => h
    · exact fun _ _ _ _ h => h
    · exact fun _ _ _ _ h => h
    · exact fun _ _ _ _ h => h
    · exact fun _ _ _ _ h => h
    · exact fun _ _ _ _ h => h
    · exact fun _ _ _ _ h => h
    · exact fun _ _ _ _ h => h
    · exact fun _ _ _ _ h => h
    · exact fun _ _ _ _ h => h
    · exact fun _ _ _ _ h => h
    · exact fun _ _ _ _ h => h
    · exact fun _ _ _ _ h => h
    · exact fun _ _ _ _ h => h
    · exact fun _ _ _ _ h => h
    · exact fun _ _ _ _ h => h
    · exact fun _ _ _ _ h => h
    · exact fun _ _ _ _ h => h
    · exact fun _ _ _ _ h => h
    · exact fun _ _ _ _ h => h
    · exact fun _ _ _ _ h => h
    · exact fun _ _ _ _ h => h
    · exact fun _ _ _ _ h => h
    · exact fun _ _ _ _ h => h
    · exact fun _ _ _ _ h => h
    · exact fun _ _ _ _ h => h
    · exact fun _ _ _ _ h => h
    · exact fun _ _ _ _ h => h
    · exact fun _ _ _ _ h => h
    · exact fun _ _ _ _ h => h
  case steps =>
    have hBx : ∀ wx, Below w.drew.heap.size w.drew wx → Below w.heap.size w wx := fun wx hb => ⟨hb.os, hb.tape, hb.output, hb.size, hb.block⟩
    refine ⟨?_, ?_, ?_, ?_, ?_, ?_, ?_, ?_, ?_, ?_, ?_, ?_, ?_, ?_, ?_, ?_, ?_, ?_, ?_, ?_, ?_, ?_, ?_, ?_, ?_, ?_, ?_, ?_, ?_, ?_, ?_, ?_, ?_, ?_, ?_, ?_, ?_, ?_, ?_, ?_, ?_, ?_, ?_, ?_, ?_, ?_, ?_, ?_, ?_, ?_, ?_, ?_, ?_, ?_, ?_, ?_, ?_, ?_, ?_, ?_, ?_, ?_, ?_, trivial⟩
    · intro a' he wx hb hd
      have e0 : a'.eval (.tmp 0) = .pointer (some ⟨gf, 0, none⟩) := he.get rfl
      exact mStep_read rfl (by simp [execOp, e0]) rfl
    · intro a' he wx hb hd
      have e0 : a'.eval (.tmp 3) = .pointer (some ⟨gf, 0, none⟩) := hd 0 rfl _ _ rfl rfl
      refine mStep_read rfl ?_ rfl
      simp only [execOp, e0]
      go_simp
    · intro a' he wx hb hd
      have e0 : a'.eval (.tmp 4) = .pointer (some ⟨gf, 0, none⟩) := hd 1 rfl _ _ rfl rfl
      refine mStep_read rfl ?_ rfl
      simp only [execOp, e0]
      go_simp
    · intro a' he wx hb hd
      have e0 : a'.eval (.tmp 5) = .pointer (some ⟨gf, 5, none⟩) := hd 2 rfl _ _ rfl rfl
      have c := (hF.up (hBx wx hb)).cell 5
      refine mStep_read rfl ?_ rfl
      simp only [execOp, e0]
      go_simp
    · intro a' he wx hb hd
      have e0 : a'.eval (.tmp 0) = .pointer (some ⟨gf, 0, none⟩) := he.get rfl
      exact mStep_read rfl (by simp [execOp, e0]) rfl
    · intro a' he wx hb hd
      have e0 : a'.eval (.tmp 7) = .pointer (some ⟨gf, 0, none⟩) := hd 4 rfl _ _ rfl rfl
      refine mStep_read rfl ?_ rfl
      simp only [execOp, e0]
      go_simp
    · intro a' he wx hb hd
      have e0 : a'.eval (.tmp 8) = .pointer (some ⟨gf, 0, none⟩) := hd 5 rfl _ _ rfl rfl
      refine mStep_read rfl ?_ rfl
      simp only [execOp, e0]
      go_simp
    · intro a' he wx hb hd
      have e0 : a'.eval (.tmp 9) = .pointer (some ⟨gf, 0, none⟩) := hd 6 rfl _ _ rfl rfl
      refine mStep_read rfl ?_ rfl
      simp only [execOp, e0]
      go_simp
    · intro a' he wx hb hd
      have e0 : a'.eval (.tmp 10) = .pointer (some ⟨gf, 0, none⟩) := hd 7 rfl _ _ rfl rfl
      have c := (hF.up (hBx wx hb)).cell 0
      refine mStep_read rfl ?_ rfl
      simp only [execOp, e0]
      go_simp
    · intro a' he wx hb hd
      have e0 : a'.eval (.tmp 6) = .slice (some ⟨g0, 0, none⟩) (ws.length + 80) (ws.length + 80) := hd 3 rfl _ _ rfl rfl
      have e1 : a'.eval (.tmp 11) = .slice aw ws.length cw := hd 8 rfl _ _ rfl rfl
      exact mStep_call rfl (by simp [execOp, e0, e1, resolve]; rfl) (C0 wx (hBx wx hb))
    · intro a' he wx hb hd
      have e0 : a'.eval (.tmp 12) = .bool true := hd 9 rfl _ _ rfl rfl
      exact mStep_read rfl (by simp [execOp, e0]) rfl
    · intro a' he wx hb hd
      have e0 : a'.eval (.tmp 0) = .pointer (some ⟨gf, 0, none⟩) := he.get rfl
      exact mStep_read_on rfl rfl rfl (hd 10 rfl _ _ rfl rfl) (by simp [execOp, e0]) rfl
    · intro a' he wx hb hd
      have e0 : a'.eval (.tmp 14) = .pointer (some ⟨gf, 0, none⟩) := hd 11 rfl _ _ rfl rfl
      refine mStep_read_on rfl rfl rfl (hd 10 rfl _ _ rfl rfl) ?_ rfl
      simp only [execOp, e0]
      go_simp
    · intro a' he wx hb hd
      have e0 : a'.eval (.tmp 15) = .pointer (some ⟨gf, 0, none⟩) := hd 12 rfl _ _ rfl rfl
      refine mStep_read_on rfl rfl rfl (hd 10 rfl _ _ rfl rfl) ?_ rfl
      simp only [execOp, e0]
      go_simp
    · intro a' he wx hb hd
      have e0 : a'.eval (.tmp 16) = .pointer (some ⟨gf, 6, none⟩) := hd 13 rfl _ _ rfl rfl
      have c := (hF.up (hBx wx hb)).cell 6
      refine mStep_read_on rfl rfl rfl (hd 10 rfl _ _ rfl rfl) ?_ rfl
      simp only [execOp, e0]
      go_simp
    · intro a' he wx hb hd
      have e0 : a'.eval (.tmp 0) = .pointer (some ⟨gf, 0, none⟩) := he.get rfl
      exact mStep_read_on rfl rfl rfl (hd 10 rfl _ _ rfl rfl) (by simp [execOp, e0]) rfl
    · intro a' he wx hb hd
      have e0 : a'.eval (.tmp 18) = .pointer (some ⟨gf, 0, none⟩) := hd 15 rfl _ _ rfl rfl
      refine mStep_read_on rfl rfl rfl (hd 10 rfl _ _ rfl rfl) ?_ rfl
      simp only [execOp, e0]
      go_simp
    · intro a' he wx hb hd
      have e0 : a'.eval (.tmp 19) = .pointer (some ⟨gf, 0, none⟩) := hd 16 rfl _ _ rfl rfl
      refine mStep_read_on rfl rfl rfl (hd 10 rfl _ _ rfl rfl) ?_ rfl
      simp only [execOp, e0]
      go_simp
    · intro a' he wx hb hd
      have e0 : a'.eval (.tmp 20) = .pointer (some ⟨gf, 0, none⟩) := hd 17 rfl _ _ rfl rfl
      refine mStep_read_on rfl rfl rfl (hd 10 rfl _ _ rfl rfl) ?_ rfl
      simp only [execOp, e0]
      go_simp
    · intro a' he wx hb hd
      have e0 : a'.eval (.tmp 21) = .pointer (some ⟨gf, 1, none⟩) := hd 18 rfl _ _ rfl rfl
      have c := (hF.up (hBx wx hb)).cell 1
      refine mStep_read_on rfl rfl rfl (hd 10 rfl _ _ rfl rfl) ?_ rfl
      simp only [execOp, e0]
      go_simp
    · intro a' he wx hb hd
      exact mStep_read_on rfl rfl rfl (hd 10 rfl _ _ rfl rfl) (by kernel_rfl) rfl
    · intro a' he wx hb hd
      have e0 : a'.eval (.tmp 17) = .slice (some ⟨g1, 0, none⟩) (ms.length + 80) (ms.length + 80) := hd 14 rfl _ _ rfl rfl
      have e1 : a'.eval (.tmp 22) = .slice am ms.length cm := hd 19 rfl _ _ rfl rfl
      have e2 : a'.eval (.tmp 23) = .agg #[.int .i64 (-7), .int .i64 0, .int .i64 0] := hd 20 rfl _ _ rfl rfl
      exact mStep_call_on rfl rfl rfl (hd 10 rfl _ _ rfl rfl) (by simp [execOp, e0, e1, e2, resolve]; rfl) (C1 wx (hBx wx hb))
    · intro a' he wx hb hd
      have e0 : a'.eval (.tmp 13) = .bool true := hd 10 rfl _ _ rfl rfl
      have e1 : a'.eval (.tmp 24) = .bool true := hd 21 rfl _ _ rfl rfl
      refine mStep_read rfl ?_ rfl
      simp only [execOp, e0, e1]
      go_simp
    · intro a' he wx hb hd
      have e0 : a'.eval (.tmp 25) = .bool true := hd 22 rfl _ _ rfl rfl
      exact mStep_read rfl (by simp [execOp, e0]) rfl
    · intro a' he wx hb hd
      have e0 : a'.eval (.tmp 0) = .pointer (some ⟨gf, 0, none⟩) := he.get rfl
      exact mStep_read_on rfl rfl rfl (hd 23 rfl _ _ rfl rfl) (by simp [execOp, e0]) rfl
    · intro a' he wx hb hd
      have e0 : a'.eval (.tmp 27) = .pointer (some ⟨gf, 0, none⟩) := hd 24 rfl _ _ rfl rfl
      refine mStep_read_on rfl rfl rfl (hd 23 rfl _ _ rfl rfl) ?_ rfl
      simp only [execOp, e0]
      go_simp
    · intro a' he wx hb hd
      have e0 : a'.eval (.tmp 28) = .pointer (some ⟨gf, 0, none⟩) := hd 25 rfl _ _ rfl rfl
      refine mStep_read_on rfl rfl rfl (hd 23 rfl _ _ rfl rfl) ?_ rfl
      simp only [execOp, e0]
      go_simp
    · intro a' he wx hb hd
      have e0 : a'.eval (.tmp 29) = .pointer (some ⟨gf, 7, none⟩) := hd 26 rfl _ _ rfl rfl
      have c := (hF.up (hBx wx hb)).cell 7
      refine mStep_read_on rfl rfl rfl (hd 23 rfl _ _ rfl rfl) ?_ rfl
      simp only [execOp, e0]
      go_simp
    · intro a' he wx hb hd
      have e0 : a'.eval (.tmp 0) = .pointer (some ⟨gf, 0, none⟩) := he.get rfl
      exact mStep_read_on rfl rfl rfl (hd 23 rfl _ _ rfl rfl) (by simp [execOp, e0]) rfl
    · intro a' he wx hb hd
      have e0 : a'.eval (.tmp 31) = .pointer (some ⟨gf, 0, none⟩) := hd 28 rfl _ _ rfl rfl
      refine mStep_read_on rfl rfl rfl (hd 23 rfl _ _ rfl rfl) ?_ rfl
      simp only [execOp, e0]
      go_simp
    · intro a' he wx hb hd
      have e0 : a'.eval (.tmp 32) = .pointer (some ⟨gf, 0, none⟩) := hd 29 rfl _ _ rfl rfl
      refine mStep_read_on rfl rfl rfl (hd 23 rfl _ _ rfl rfl) ?_ rfl
      simp only [execOp, e0]
      go_simp
    · intro a' he wx hb hd
      have e0 : a'.eval (.tmp 33) = .pointer (some ⟨gf, 0, none⟩) := hd 30 rfl _ _ rfl rfl
      refine mStep_read_on rfl rfl rfl (hd 23 rfl _ _ rfl rfl) ?_ rfl
      simp only [execOp, e0]
      go_simp
    · intro a' he wx hb hd
      have e0 : a'.eval (.tmp 34) = .pointer (some ⟨gf, 2, none⟩) := hd 31 rfl _ _ rfl rfl
      have c := (hF.up (hBx wx hb)).cell 2
      refine mStep_read_on rfl rfl rfl (hd 23 rfl _ _ rfl rfl) ?_ rfl
      simp only [execOp, e0]
      go_simp
    · intro a' he wx hb hd
      exact mStep_read_on rfl rfl rfl (hd 23 rfl _ _ rfl rfl) (by kernel_rfl) rfl
    · intro a' he wx hb hd
      have e0 : a'.eval (.tmp 30) = .slice (some ⟨g2, 0, none⟩) (A.length + 80) (A.length + 80) := hd 27 rfl _ _ rfl rfl
      have e1 : a'.eval (.tmp 35) = .slice a A.length ca := hd 32 rfl _ _ rfl rfl
      have e2 : a'.eval (.tmp 36) = .agg #[.int .i32 (-7), .int .i32 0] := hd 33 rfl _ _ rfl rfl
      exact mStep_call_on rfl rfl rfl (hd 23 rfl _ _ rfl rfl) (by simp [execOp, e0, e1, e2, resolve]; rfl) (C2 wx (hBx wx hb))
    · intro a' he wx hb hd
      have e0 : a'.eval (.tmp 26) = .bool true := hd 23 rfl _ _ rfl rfl
      have e1 : a'.eval (.tmp 37) = .bool true := hd 34 rfl _ _ rfl rfl
      refine mStep_read rfl ?_ rfl
      simp only [execOp, e0, e1]
      go_simp
    · intro a' he wx hb hd
      have e0 : a'.eval (.tmp 38) = .bool true := hd 35 rfl _ _ rfl rfl
      exact mStep_read rfl (by simp [execOp, e0]) rfl
    · intro a' he wx hb hd
      have e0 : a'.eval (.tmp 0) = .pointer (some ⟨gf, 0, none⟩) := he.get rfl
      exact mStep_read_on rfl rfl rfl (hd 36 rfl _ _ rfl rfl) (by simp [execOp, e0]) rfl
    · intro a' he wx hb hd
      have e0 : a'.eval (.tmp 40) = .pointer (some ⟨gf, 0, none⟩) := hd 37 rfl _ _ rfl rfl
      refine mStep_read_on rfl rfl rfl (hd 36 rfl _ _ rfl rfl) ?_ rfl
      simp only [execOp, e0]
      go_simp
    · intro a' he wx hb hd
      have e0 : a'.eval (.tmp 41) = .pointer (some ⟨gf, 0, none⟩) := hd 38 rfl _ _ rfl rfl
      refine mStep_read_on rfl rfl rfl (hd 36 rfl _ _ rfl rfl) ?_ rfl
      simp only [execOp, e0]
      go_simp
    · intro a' he wx hb hd
      have e0 : a'.eval (.tmp 42) = .pointer (some ⟨gf, 8, none⟩) := hd 39 rfl _ _ rfl rfl
      have c := (hF.up (hBx wx hb)).cell 8
      refine mStep_read_on rfl rfl rfl (hd 36 rfl _ _ rfl rfl) ?_ rfl
      simp only [execOp, e0]
      go_simp
    · intro a' he wx hb hd
      have e0 : a'.eval (.tmp 0) = .pointer (some ⟨gf, 0, none⟩) := he.get rfl
      exact mStep_read_on rfl rfl rfl (hd 36 rfl _ _ rfl rfl) (by simp [execOp, e0]) rfl
    · intro a' he wx hb hd
      have e0 : a'.eval (.tmp 44) = .pointer (some ⟨gf, 0, none⟩) := hd 41 rfl _ _ rfl rfl
      refine mStep_read_on rfl rfl rfl (hd 36 rfl _ _ rfl rfl) ?_ rfl
      simp only [execOp, e0]
      go_simp
    · intro a' he wx hb hd
      have e0 : a'.eval (.tmp 45) = .pointer (some ⟨gf, 0, none⟩) := hd 42 rfl _ _ rfl rfl
      refine mStep_read_on rfl rfl rfl (hd 36 rfl _ _ rfl rfl) ?_ rfl
      simp only [execOp, e0]
      go_simp
    · intro a' he wx hb hd
      have e0 : a'.eval (.tmp 46) = .pointer (some ⟨gf, 0, none⟩) := hd 43 rfl _ _ rfl rfl
      refine mStep_read_on rfl rfl rfl (hd 36 rfl _ _ rfl rfl) ?_ rfl
      simp only [execOp, e0]
      go_simp
    · intro a' he wx hb hd
      have e0 : a'.eval (.tmp 47) = .pointer (some ⟨gf, 3, none⟩) := hd 44 rfl _ _ rfl rfl
      have c := (hF.up (hBx wx hb)).cell 3
      refine mStep_read_on rfl rfl rfl (hd 36 rfl _ _ rfl rfl) ?_ rfl
      simp only [execOp, e0]
      go_simp
    · intro a' he wx hb hd
      exact mStep_read_on rfl rfl rfl (hd 36 rfl _ _ rfl rfl) (by kernel_rfl) rfl
    · intro a' he wx hb hd
      have e0 : a'.eval (.tmp 43) = .slice (some ⟨g3, 0, none⟩) (B.length + 80) (B.length + 80) := hd 40 rfl _ _ rfl rfl
      have e1 : a'.eval (.tmp 48) = .slice b B.length cb := hd 45 rfl _ _ rfl rfl
      have e2 : a'.eval (.tmp 49) = .agg #[.int .i32 (-7), .int .i32 0] := hd 46 rfl _ _ rfl rfl
      exact mStep_call_on rfl rfl rfl (hd 36 rfl _ _ rfl rfl) (by simp [execOp, e0, e1, e2, resolve]; rfl) (C3 wx (hBx wx hb))
    · intro a' he wx hb hd
      have e0 : a'.eval (.tmp 39) = .bool true := hd 36 rfl _ _ rfl rfl
      have e1 : a'.eval (.tmp 50) = .bool true := hd 47 rfl _ _ rfl rfl
      refine mStep_read rfl ?_ rfl
      simp only [execOp, e0, e1]
      go_simp
    · intro a' he wx hb hd
      have e0 : a'.eval (.tmp 51) = .bool true := hd 48 rfl _ _ rfl rfl
      exact mStep_read rfl (by simp [execOp, e0]) rfl
    · intro a' he wx hb hd
      have e0 : a'.eval (.tmp 0) = .pointer (some ⟨gf, 0, none⟩) := he.get rfl
      exact mStep_read_on rfl rfl rfl (hd 49 rfl _ _ rfl rfl) (by simp [execOp, e0]) rfl
    · intro a' he wx hb hd
      have e0 : a'.eval (.tmp 53) = .pointer (some ⟨gf, 0, none⟩) := hd 50 rfl _ _ rfl rfl
      refine mStep_read_on rfl rfl rfl (hd 49 rfl _ _ rfl rfl) ?_ rfl
      simp only [execOp, e0]
      go_simp
    · intro a' he wx hb hd
      have e0 : a'.eval (.tmp 54) = .pointer (some ⟨gf, 0, none⟩) := hd 51 rfl _ _ rfl rfl
      refine mStep_read_on rfl rfl rfl (hd 49 rfl _ _ rfl rfl) ?_ rfl
      simp only [execOp, e0]
      go_simp
    · intro a' he wx hb hd
      have e0 : a'.eval (.tmp 55) = .pointer (some ⟨gf, 9, none⟩) := hd 52 rfl _ _ rfl rfl
      have c := (hF.up (hBx wx hb)).cell 9
      refine mStep_read_on rfl rfl rfl (hd 49 rfl _ _ rfl rfl) ?_ rfl
      simp only [execOp, e0]
      go_simp
    · intro a' he wx hb hd
      have e0 : a'.eval (.tmp 0) = .pointer (some ⟨gf, 0, none⟩) := he.get rfl
      exact mStep_read_on rfl rfl rfl (hd 49 rfl _ _ rfl rfl) (by simp [execOp, e0]) rfl
    · intro a' he wx hb hd
      have e0 : a'.eval (.tmp 57) = .pointer (some ⟨gf, 0, none⟩) := hd 54 rfl _ _ rfl rfl
      refine mStep_read_on rfl rfl rfl (hd 49 rfl _ _ rfl rfl) ?_ rfl
      simp only [execOp, e0]
      go_simp
    · intro a' he wx hb hd
      have e0 : a'.eval (.tmp 58) = .pointer (some ⟨gf, 0, none⟩) := hd 55 rfl _ _ rfl rfl
      refine mStep_read_on rfl rfl rfl (hd 49 rfl _ _ rfl rfl) ?_ rfl
      simp only [execOp, e0]
      go_simp
    · intro a' he wx hb hd
      have e0 : a'.eval (.tmp 59) = .pointer (some ⟨gf, 0, none⟩) := hd 56 rfl _ _ rfl rfl
      refine mStep_read_on rfl rfl rfl (hd 49 rfl _ _ rfl rfl) ?_ rfl
      simp only [execOp, e0]
      go_simp
    · intro a' he wx hb hd
      have e0 : a'.eval (.tmp 60) = .pointer (some ⟨gf, 4, none⟩) := hd 57 rfl _ _ rfl rfl
      have c := (hF.up (hBx wx hb)).cell 4
      refine mStep_read_on rfl rfl rfl (hd 49 rfl _ _ rfl rfl) ?_ rfl
      simp only [execOp, e0]
      go_simp
    · intro a' he wx hb hd
      exact mStep_read_on rfl rfl rfl (hd 49 rfl _ _ rfl rfl) (by kernel_rfl) rfl
    · intro a' he wx hb hd
      have e0 : a'.eval (.tmp 56) = .slice (some ⟨g4, 0, none⟩) (C.length + 80) (C.length + 80) := hd 53 rfl _ _ rfl rfl
      have e1 : a'.eval (.tmp 61) = .slice c C.length cc := hd 58 rfl _ _ rfl rfl
      have e2 : a'.eval (.tmp 62) = .agg #[.int .i32 (-7), .int .i32 0] := hd 59 rfl _ _ rfl rfl
      exact mStep_call_on rfl rfl rfl (hd 49 rfl _ _ rfl rfl) (by simp [execOp, e0, e1, e2, resolve]; rfl) (C4 wx (hBx wx hb))
    · intro a' he wx hb hd
      have e0 : a'.eval (.tmp 52) = .bool true := hd 49 rfl _ _ rfl rfl
      have e1 : a'.eval (.tmp 63) = .bool true := hd 60 rfl _ _ rfl rfl
      refine mStep_read rfl ?_ rfl
      simp only [execOp, e0, e1]
      go_simp
    · intro a' he wx hb hd
      have e0 : a'.eval (.tmp 64) = .bool true := hd 61 rfl _ _ rfl rfl
      exact mStep_read rfl (by simp [execOp, e0]) rfl
  case fin =>
    rintro wx hb _ rfl _ rfl _ rfl _ rfl _ rfl _ rfl _ rfl _ rfl _ rfl _ rfl _ rfl _ rfl _ rfl _ rfl _ rfl _ rfl _ rfl _ rfl _ rfl _ rfl _ rfl _ rfl _ rfl _ rfl _ rfl _ rfl _ rfl _ rfl _ rfl _ rfl _ rfl _ rfl _ rfl _ rfl _ rfl _ rfl _ rfl _ rfl _ rfl _ rfl _ rfl _ rfl _ rfl _ rfl _ rfl _ rfl _ rfl _ rfl _ rfl _ rfl _ rfl _ rfl _ rfl _ rfl _ rfl _ rfl _ rfl _ rfl _ rfl _ rfl _ rfl _ rfl _ rfl
    simp only [finV, Act.put, List.setIfInBounds_toArray, List.set_cons_succ, List.set_cons_zero, List.drop_succ_cons, List.drop_zero]
    have hb5 : Below w.heap.size w wx := ⟨hb.os, hb.tape, hb.output, hb.size, hb.block⟩
    clear C0 C1 C2 C3 C4 hF HF hb
    go_wp2_with fail
    go_ret
    exact ⟨rfl, hb5⟩
end Go.Proofs.YtonbfcpbgkpbaaaGreatDoor
end
