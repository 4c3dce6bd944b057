/- tesserabook.Roomy, Same, Intact of words: their contracts. -/
import Derived.Test.YtlnebbciefdpoaaDoorMClone
import Derived.Test.YtlnebbciefdpoaaDoorSRoomy
namespace Go.Proofs.YtlnebbciefdpoaaDoor
open Go.RowKit Go.Sort Go.Joins
/-- A block of words' cells. -/
def OwnPw (w : World) (g : Nat) (L : List Value) : Prop := w.heap[g]? = some (.cells L.toArray 9 (0, 0))
theorem OwnPw.below {w w' : World} {g : Nat} {L : List Value} {B : Nat} (h : OwnPw w g L) (hb : Below B w w') (hg : g < B) : OwnPw w' g L := by
  unfold OwnPw; rw [hb.block g hg]; exact h
theorem OwnPw.lt {w : World} {g : Nat} {L : List Value} (h : OwnPw w g L) : g < w.heap.size := (Array.getElem?_eq_some_iff.1 h).1
theorem OwnPw.cell {w : World} {g : Nat} {L : List Value} (h : OwnPw w g L) (j : Nat) : w.cell? ⟨g, j, none⟩ = L[j]? := by
  rw [cell_of_block h]; simp
theorem OwnPw.free {w : World} {g : Nat} {L : List Value} (h : OwnPw w g L) (j : Nat) : w.frozen? ⟨g, j, none⟩ = false := unfrozen_of_block h j
theorem OwnPw.set {w : World} {g : Nat} {L : List Value} (h : OwnPw w g L) (j : Nat) (v : Value) : OwnPw (w.setCell ⟨g, j, none⟩ v) g (L.set j v) := by
  have := block_setCell h (i := j) v
  unfold OwnPw; rw [this]; simp
theorem WSP.of_block {w : World} {g : Nat} {l r : List ByteArray} {t : TypeId} {fr : Nat × Nat} (h : w.heap[g]? = some (.cells (cellsW (l ++ r)).toArray t fr)) : WSP w (some ⟨g, 0, none⟩) l := by
  refine .inr ⟨g, 0, rfl, fun i x hx => ?_⟩
  have hx' : (l ++ r)[i]? = some x := by
    rw [List.getElem?_append_left (List.getElem?_eq_some_iff.1 hx).1]; exact hx
  have h0 := cellsW_get hx'
  rw [cell_of_block h, Nat.zero_add]
  simpa using h0
theorem cellsW_append (l r : List ByteArray) : cellsW (l ++ r) = cellsW l ++ cellsW r := by simp [cellsW]
theorem cellsW_set (l : List ByteArray) (i : Nat) (x : ByteArray) : (cellsW l).set i (.string x) = cellsW (l.set i x) := by simp [cellsW, List.map_set]
def fillW (l : List ByteArray) (m : ByteArray) (k : Nat) : List ByteArray := l ++ (List.replicate k m ++ List.replicate (80 - k) ⟨#[]⟩)
theorem fillW_set (l : List ByteArray) (m : ByteArray) (k : Nat) (h : k < 80) : (fillW l m k).set (l.length + k) m = fillW l m (k + 1) := by
  unfold fillW
  rw [List.set_append_right _ _ (by omega), Nat.add_sub_cancel_left, List.set_append_right _ _ (by simp)]
  simp only [List.length_replicate, Nat.sub_self]
  rw [show 80 - k = (80 - (k + 1)) + 1 from by omega, List.replicate_succ, List.set_cons_zero, List.replicate_succ', List.append_assoc]
  rfl
theorem fillW_length (l : List ByteArray) (m : ByteArray) (k : Nat) (h : k ≤ 80) : (fillW l m k).length = l.length + 80 := by
  simp [fillW]; omega
theorem fillW_get (l : List ByteArray) (m : ByteArray) (n k : Nat) (h : k < n) : (fillW l m n)[l.length + k]? = some m := by
  unfold fillW
  rw [List.getElem?_append_right (by omega), Nat.add_sub_cancel_left, List.getElem?_append_left (by simpa using h)]
  simp [h]
theorem fillW_start (l : List ByteArray) (m : ByteArray) : fillW l ⟨#[]⟩ 0 = fillW l m 0 := by simp [fillW]
theorem copy_cellsW (l : List ByteArray) : (cellsW (List.replicate (l.length + 80) ⟨#[]⟩)).take 0 ++ cellsW l ++ (cellsW (List.replicate (l.length + 80) ⟨#[]⟩)).drop (0 + (cellsW l).length) = cellsW (fillW l ⟨#[]⟩ 0) := by
  have h : cellsW (List.replicate (l.length + 80) ⟨#[]⟩) = cellsW (List.replicate l.length ⟨#[]⟩) ++ cellsW (List.replicate 80 ⟨#[]⟩) := by
    rw [← cellsW_append, List.replicate_append_replicate]
  rw [h, Nat.zero_add, List.drop_append_of_le_length (by rw [cellsW_length, cellsW_length]; simp), List.drop_of_length_le (by rw [cellsW_length, cellsW_length]; simp)]
  unfold fillW
  simp [cellsW_append]
theorem sizeW : (Tryd.prog.info? 9).map (·.size) = some 1 := by kernel_rfl
theorem madeW (n : Nat) : madeCells #[Value.string ⟨#[]⟩] (n * 1) = (cellsW (List.replicate n ⟨#[]⟩)).toArray := by
  have e : cellsW (List.replicate n ⟨#[]⟩) = List.replicate (n * 1) (.string ⟨#[]⟩) := by simp [cellsW]
  rw [e]
  apply Array.ext
  · simp [madeCells]
  · intro i h1 h2
    simp only [madeCells, Array.getElem_map, List.getElem_toArray, List.getElem_replicate]
    have : (Array.range (n * 1))[i]'(by simpa [madeCells] using h1) % #[Value.string ⟨#[]⟩].size < 1 := Nat.mod_lt _ (by decide)
    generalize (Array.range (n * 1))[i]'(by simpa [madeCells] using h1) % #[Value.string ⟨#[]⟩].size = j at this
    match j, this with
    | 0, _ => rfl
theorem copy_runW (W : World) (g : Nat) (a : Option Addr) (cap : Nat) (l : List ByteArray) (hO : OwnPw W g (cellsW (List.replicate (l.length + 80) ⟨#[]⟩))) (h : WSP W a l) :
    ∃ W1, (Builtin.copy_ #[38, 38] 3 #[.slice (some ⟨g, 0, none⟩) (l.length + 80) (l.length + 80), .slice a l.length cap]).run Tryd.prog W = .ok (.int .i64 (l.length : Int)) W1 ∧
      OwnPw W1 g (cellsW (fillW l ⟨#[]⟩ 0)) ∧ ∀ B w0, Below B w0 W → B ≤ g → Below B w0 W1 := by
  have nil : l = [] → ∃ W1, (Builtin.copy_ #[38, 38] 3 #[.slice (some ⟨g, 0, none⟩) (l.length + 80) (l.length + 80), .slice a l.length cap]).run Tryd.prog W = .ok (.int .i64 (l.length : Int)) W1 ∧
      OwnPw W1 g (cellsW (fillW l ⟨#[]⟩ 0)) ∧ ∀ B w0, Below B w0 W → B ≤ g → Below B w0 W1 := by
    rintro rfl
    refine ⟨W, ?_, by simpa [fillW] using hO, fun _ _ h _ => h⟩
    have hl : ∀ (x : Addr), (loadCells x 0).run Tryd.prog W = .ok #[] W := fun x => by simpa using run_loadCells_list (P := Tryd.prog) W x [] (by simp)
    cases hq : Tryd.prog.info? 9 with
    | none => have := sizeW; simp [hq] at this
    | some i =>
      cases a <;> simp [Builtin.copy_, run_underlying Tryd.underlying38, Builtin.lenOf, Builtin.firstCells, sizeOf, typeInfo, hq, storeCells, hl, goInt]
  rcases h with h | ⟨b, off, rfl, hc⟩
  · exact nil h
  · have hmin : Nat.min l.length (l.length + 80) = l.length := Nat.min_eq_left (by omega)
    have hr := run_copy_rowN (P := Tryd.prog) W 38 38 3 9 1 g 0 (l.length + 80) (l.length + 80) ⟨b, off, none⟩ l.length cap _ 9 (cellsW l) Tryd.underlying38 sizeW hO (by rw [hmin, cellsW_length])
      (WSP.cells (.inr ⟨b, off, rfl, hc⟩)) (by rw [List.size_toArray, cellsW_length, cellsW_length]; simp) (cellsW_one l)
    rw [hmin] at hr
    refine ⟨_, hr, ?_, fun B w0 hb hg => below_setRow hb hg _⟩
    have := setRow_heap W g (cellsW (List.replicate (l.length + 80) ⟨#[]⟩)).toArray ((cellsW (List.replicate (l.length + 80) ⟨#[]⟩)).take 0 ++ cellsW l ++ (cellsW (List.replicate (l.length + 80) ⟨#[]⟩)).drop (0 + (cellsW l).length)).toArray 9 (0, 0) hO
    rw [copy_cellsW] at this
    unfold OwnPw
    rw [← this]
    rw [copy_cellsW]
set_option maxHeartbeats 1600000 in
theorem roomyW_any (a : Option Addr) (cap : Nat) (l : List ByteArray) (m : ByteArray) (w : World) (hlen : l.length ≤ 8796093022208) (h : WSP w a l) :
    Calls Tryd.prog 39 #[.slice a l.length cap, .string m] w fun e w' => ∃ g, w.heap.size ≤ g ∧
      e = .returned (.slice (some ⟨g, 0, none⟩) (l.length + 80) (l.length + 80)) ∧ Below w.heap.size w w' ∧ OwnPw w' g (cellsW (fillW l m 80)) := by
  obtain ⟨i0, hi, hz0, hz1, hz2⟩ := info_parts infoW
  have hmk : ∀ u : World, (Instr.makeSlice 38 (.int .i64 ((l.length : Int) + 80)) (.int .i64 ((l.length : Int) + 80))).run Tryd.prog u =
      .ok (.slice (some ⟨u.heap.size, 0, none⟩) (l.length + 80) (l.length + 80)) (u.alloc (.cells (cellsW (List.replicate (l.length + 80) ⟨#[]⟩)).toArray 9)) := fun u => by
    have h := run_make (P := Tryd.prog) u 38 9 i0 _ Tryd.underlying38 hi hz0 .i64 .i64 ((l.length : Int) + 80) ((l.length : Int) + 80) (by omega) (Int.le_refl _) (by rw [hz2]; omega) (by omega)
    have e : ((l.length : Int) + 80).toNat = l.length + 80 := by omega
    rw [e, hz1] at h
    rw [← madeW]
    simpa [Value.cells] using h
  have b1 := (Below.refl w.heap.size w).alloc (Nat.le_refl _) (.cells (cellsW (List.replicate (l.length + 80) ⟨#[]⟩)).toArray 9)
  have hO : OwnPw (w.alloc (.cells (cellsW (List.replicate (l.length + 80) ⟨#[]⟩)).toArray 9)) w.heap.size (cellsW (List.replicate (l.length + 80) ⟨#[]⟩)) := heap_alloc_new _ _
  obtain ⟨w1, hcp, ho1, hb1⟩ := copy_runW _ w.heap.size a cap l hO (h.below b1)
  have hB1 := hb1 _ _ b1 (Nat.le_refl _)
  rw [fillW_start l m] at ho1
  clear hO h b1 hb1
  go_enter Tryd.func39, Tryd.ntmps39
  go_wp2
  go_loopw [6] (fun v wr => ∃ i : Nat, l.length ≤ i ∧ i ≤ l.length + 80 ∧ v = .int .i64 (i : Nat) ∧ OwnPw wr w.heap.size (cellsW (fillW l m (i - l.length))) ∧ Below w.heap.size w wr) (fun v _ => 80 + l.length - (intOf v).toNat)
  case atStart => exact ⟨l.length, Nat.le_refl _, by omega, rfl, by rw [Nat.sub_self]; exact ho1, hB1⟩
  case round =>
    clear ho1 hB1 hcp hmk
    obtain ⟨i, hi1, hi2, rfl, hown, hbr⟩ := hrel
    have HO : Hid (OwnPw wr w.heap.size (cellsW (fillW l m (i - l.length)))) := hown
    by_cases hlt : i < l.length + 80
    · obtain ⟨y, hx⟩ : ∃ y, (fillW l m (i - l.length))[i]? = some y := ⟨_, List.getElem?_eq_getElem (by rw [fillW_length _ _ _ (by omega)]; omega)⟩
      have c0 := (hown.cell i).trans (cellsW_get hx)
      have f0 := hown.free i
      have hd : decide ((i : Int) < (l.length : Int) + 80) = true := decide_eq_true (by omega)
      clear hx hown
      go_wp2_with fail
      refine ⟨⟨i + 1, by omega, by omega, by go_num, ?_, hbr.setCell (p := ⟨w.heap.size, i, none⟩) (Nat.le_refl _) _⟩, by simp only [intOf]; omega⟩
      have h1 := HO.out.set i (.string m)
      have h2 := fillW_set l m (i - l.length) (by omega)
      rw [show l.length + (i - l.length) = i by omega] at h2
      rw [cellsW_set, h2] at h1
      rw [show i + 1 - l.length = i - l.length + 1 by omega]
      exact h1
    · have hi80 : i = l.length + 80 := by omega
      subst hi80
      clear hown
      go_wp2_with fail
      go_ret
      exact ⟨_, Nat.le_refl _, rfl, hbr, by have := HO.out; rwa [Nat.add_sub_cancel_left] at this⟩
set_option maxHeartbeats 800000 in
/-- Of two slices that hold the same words, Same says so. -/
theorem sameW_any (a b : Option Addr) (ca cb : Nat) (l : List ByteArray) (w : World) (hlen : l.length ≤ 9223372036854775807) (ha : WSP w a l) (hb : WSP w b l) :
    Calls Tryd.prog 46 #[.slice a l.length ca, .slice b l.length cb] w fun e w' => e = .returned (.bool true) ∧ Below w.heap.size w w' := by
  obtain ⟨n, hn⟩ : ∃ n, n = l.length := ⟨_, rfl⟩
  have HN : Hid (n = l.length) := hn
  rw [← hn] at hlen ⊢
  clear hn
  have hne : ((n : Int) != (n : Int)) = false := by simp
  go_enter Tryd.func46, Tryd.ntmps46
  go_wp2
  go_loopw [5] (fun i wr => ∃ k : Nat, k ≤ n ∧ i = .int .i64 k ∧ Below w.heap.size w wr) (fun i _ => n - (intOf i).toNat)
  case atStart => exact ⟨0, Nat.zero_le _, rfl, Below.refl _ _⟩
  case round =>
    obtain ⟨k, hk, rfl, hbr⟩ := hrel
    by_cases hlt : k < n
    · have hkl : k < l.length := by rw [← HN.out]; exact hlt
      have hnil : l ≠ [] := fun e => by rw [e] at hkl; simp at hkl
      rcases ha with h | ⟨ga, oa, rfl, ha⟩
      · exact absurd h hnil
      rcases hb with h | ⟨gb, ob, rfl, hb⟩
      · exact absurd h hnil
      obtain ⟨x, hx⟩ : ∃ x, l[k]? = some x := ⟨l[k], List.getElem?_eq_getElem hkl⟩
      have a0 := (hbr.cell (World.block_lt_of_cell? w _ (ha k x hx))).trans (ha k x hx)
      have b0 := (hbr.cell (World.block_lt_of_cell? w _ (hb k x hx))).trans (hb k x hx)
      have HE : (x.toList == x.toList) = true := by simp
      have HF : (x.toList != x.toList) = false := by simp
      clear ha hb hnil hkl hx
      go_wp2_with fail
      go_quiet (fail)
      go_wp2_with fail
      exact ⟨⟨k + 1, by omega, by go_num, below_drewN hbr nq⟩, by simp only [intOf]; omega⟩
    · have hkn : k = n := by omega
      subst hkn
      go_wp2_with fail
      go_ret
      exact ⟨rfl, hbr⟩
set_option maxHeartbeats 800000 in
/-- Of what Roomy made, and stayed, Intact is true. -/
theorem intactW_any (g : Nat) (a : Option Addr) (cap : Nat) (l : List ByteArray) (m : ByteArray) (w : World) (hlen : l.length ≤ 8796093022208) (hf : OwnPw w g (cellsW (fillW l m 80))) (h : WSP w a l) :
    Calls Tryd.prog 43 #[.slice (some ⟨g, 0, none⟩) (l.length + 80) (l.length + 80), .slice a l.length cap, .string m] w fun e w' => e = .returned (.bool true) ∧ Below w.heap.size w w' := by
  have hs : WSP w (some ⟨g, 0, none⟩) l := WSP.of_block hf
  have hsame := sameW_any (some ⟨g, 0, none⟩) a (l.length + 80) cap l w (by omega) hs h
  have hne : (((l.length : Int) + 80) != ((l.length : Int) + 80)) = false := by simp
  have HE : (m.toList == m.toList) = true := by simp
  have HF : (m.toList != m.toList) = false := by simp
  have HFF : Hid (OwnPw w g (cellsW (fillW l m 80))) := hf
  clear hf h hs
  go_enter Tryd.func43, Tryd.ntmps43
  go_wp2_with fail
  refine hsame.mono ?_
  rintro e w1 ⟨rfl, hb1⟩
  have hf1 := HFF.out.below hb1 HFF.out.lt
  have B1 := hb1
  clear hsame hb1
  go_wp2_with fail
  go_loopw [7] (fun v wr => ∃ i : Nat, l.length ≤ i ∧ i ≤ l.length + 80 ∧ v = .int .i64 (i : Nat) ∧ Below w1.heap.size w1 wr) (fun v _ => 80 + l.length - (intOf v).toNat)
  case atStart => exact ⟨l.length, Nat.le_refl _, by omega, rfl, Below.refl _ _⟩
  case round =>
    obtain ⟨i, hi1, hi2, rfl, hbr⟩ := hrel
    by_cases hlt : i < l.length + 80
    · have hx := fillW_get l m 80 (i - l.length) (by omega)
      rw [show l.length + (i - l.length) = i by omega] at hx
      have c0 := (hf1.cell i).trans (cellsW_get hx)
      have c0 := (hbr.cell (World.block_lt_of_cell? w1 _ c0)).trans c0
      have hd : decide ((i : Int) < (l.length : Int) + 80) = true := decide_eq_true (by omega)
      clear hx hf1
      go_wp2_with fail
      exact ⟨⟨i + 1, by omega, by omega, by go_num, hbr⟩, by simp only [intOf]; omega⟩
    · have hi80 : i = l.length + 80 := by omega
      subst hi80
      go_wp2_with fail
      go_ret
      exact ⟨rfl, B1.trans (hbr.mono B1.size)⟩
end Go.Proofs.YtlnebbciefdpoaaDoor
