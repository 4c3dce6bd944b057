/- tesserabook.Roomy of bytes: its contract. -/
import Derived.Test.YtdpgjgoahglgmaaRows
import Derived.Test.YtdpgjgoahglgmaaView
import Derived.WalkSpells
import Derived.WalkLawsBesides
import Derived.Deep.QuietTactic
import Derived.BigQuiet
import Derived.Laws.CopyOwn
import Derived.Lib.SmallJoins
import Derived.Deep.DeepMust
namespace Go.Proofs.Ytdpgjgoahglgmaa
open Go.RowKit
open Go.Joins
/-- A block of bytes that the call itself made. -/
def Own (w : World) (g : Nat) (L : List Value) : Prop := w.heap[g]? = some (.cells L.toArray 5 (0, 0))
theorem Own.below {w w' : World} {g : Nat} {L : List Value} {B : Nat} (h : Own w g L) (hb : Below B w w') (hg : g < B) : Own w' g L := by
  unfold Own; rw [hb.block g hg]; exact h
theorem Own.lt {w : World} {g : Nat} {L : List Value} (h : Own w g L) : g < w.heap.size := (Array.getElem?_eq_some_iff.1 h).1
theorem Own.cell {w : World} {g : Nat} {L : List Value} (h : Own w g L) (j : Nat) : w.cell? ⟨g, j, none⟩ = L[j]? := by
  rw [cell_of_block h]; simp
theorem Own.free {w : World} {g : Nat} {L : List Value} (h : Own w g L) (j : Nat) : w.frozen? ⟨g, j, none⟩ = false := unfrozen_of_block h j
theorem Own.set {w : World} {g : Nat} {L : List Value} (h : Own w g L) (j : Nat) (v : Value) : Own (w.setCell ⟨g, j, none⟩ v) g (L.set j v) := by
  have := block_setCell h (i := j) v
  unfold Own; rw [this]; simp
theorem Own.bs {w : World} {g : Nat} {l r : List UInt8} (h : Own w g (cellsOf (l ++ r))) : BS w (some ⟨g, 0, none⟩) l := by
  refine .inr ⟨_, _, rfl, fun j hj => ?_⟩
  rw [Nat.zero_add, h.cell, cellsOf_get _ j (by simp; omega)]
  simp [List.getD, List.getElem?_append_left hj]
theorem cellsOf_length (l : List UInt8) : (cellsOf l).length = l.length := by simp [cellsOf]
theorem cellsOf_append (l r : List UInt8) : cellsOf (l ++ r) = cellsOf l ++ cellsOf r := by simp [cellsOf]
theorem cellsOf_one (l : List UInt8) : ∀ v ∈ cellsOf l, v.oneCell' = true := by
  intro v hv; simp [cellsOf] at hv; obtain ⟨c, _, rfl⟩ := hv; rfl
theorem cellsOf_set (l : List UInt8) (j : Nat) (c : UInt8) : (cellsOf l).set j (.int .u8 (c.toNat : Int)) = cellsOf (l.set j c) := by
  simp [cellsOf, List.map_set]
/-- The bytes of b, k marks, noughts up to 80. -/
def fillB (l : List UInt8) (m : UInt8) (k : Nat) : List UInt8 := l ++ (List.replicate k m ++ List.replicate (80 - k) 0)
theorem fillB_set (l : List UInt8) (m : UInt8) (k : Nat) (h : k < 80) : (fillB l m k).set (l.length + k) m = fillB l m (k + 1) := by
  unfold fillB
  rw [List.set_append_right _ _ (by omega), Nat.add_sub_cancel_left, List.set_append_right _ _ (by simp)]
  simp only [List.length_replicate, Nat.sub_self]
  rw [show 80 - k = (80 - (k + 1)) + 1 from by omega, List.replicate_succ, List.set_cons_zero, List.replicate_succ', List.append_assoc]
  rfl
theorem fillB_length (l : List UInt8) (m : UInt8) (k : Nat) (h : k ≤ 80) : (fillB l m k).length = l.length + 80 := by
  simp [fillB]; omega
theorem info5 : (Try.prog.info? 5).map (fun i => (i.zero, i.size, i.bytes)) = some (some (.int .u8 0), 1, 1) := by kernel_rfl
theorem size5 : (Try.prog.info? 5).map (·.size) = some 1 := by kernel_rfl
theorem copy_cells (l : List UInt8) : splice (List.replicate (l.length + 80) (Value.int .u8 0)) 0 (cellsOf l) = cellsOf (fillB l 0 0) := by
  unfold splice fillB
  simp [cellsOf]
theorem fill_start (l : List UInt8) (m : UInt8) : fillB l 0 0 = fillB l m 0 := by simp [fillB]
theorem copy_run (W : World) (g : Nat) (L : List Value) (dLen dCap : Nat) (a : Option Addr) (cap : Nat) (l : List UInt8) (hO : Own W g L) (hle : l.length ≤ dLen) (hfit : l.length ≤ L.length) (h : BS W a l) :
    ∃ W1, (Builtin.copy_ #[25, 25] 3 #[.slice (some ⟨g, 0, none⟩) dLen dCap, .slice a l.length cap]).run Try.prog W = .ok (.int .i64 (l.length : Int)) W1 ∧
      Own W1 g (splice L 0 (cellsOf l)) ∧ ∀ B w0, Below B w0 W → B ≤ g → Below B w0 W1 := by
  rcases h with rfl | ⟨b, off, rfl, hc⟩
  · refine ⟨W, ?_, ?_, fun _ _ h _ => h⟩
    · exact run_copy_none (P := Try.prog) W 25 25 3 5 _ _ _ _ _ _ Try.underlying25 size5 (by simp)
    · simpa [splice, cellsOf] using hO
  · have hr := run_copy_row (P := Try.prog) W 25 25 3 5 g 0 dLen dCap ⟨b, off, none⟩ l.length cap L.toArray 5 (cellsOf l) Try.underlying25 size5 hO (by rw [cellsOf_length]; exact (Nat.min_eq_left hle).symm) (fun j v hj => by
        have hj' : j < l.length := by
          rcases Nat.lt_or_ge j l.length with h | h
          · exact h
          · rw [List.getElem?_eq_none (by rw [cellsOf_length]; exact h)] at hj; cases hj
        rw [cellsOf_get l j hj'] at hj
        rw [Go.WideShapes.add_plain, hc j hj']; exact hj) (by rw [cellsOf_length]; simpa using hfit) (cellsOf_one l)
    refine ⟨_, by rw [cellsOf_length] at hr; exact hr, ?_, fun B w0 hb hg => below_setRow hb hg _⟩
    have := setRow_heap W g L.toArray (L.take 0 ++ cellsOf l ++ L.drop (0 + (cellsOf l).length)).toArray 5 (0, 0) hO
    unfold Own splice
    rw [← List.append_assoc, ← this]
    simp [cellsOf_length]
set_option maxHeartbeats 800000 in
theorem roomy_any (a : Option Addr) (cap : Nat) (l : List UInt8) (m : UInt8) (w : World) (hlen : l.length ≤ 140737488351232) (h : BS w a l) :
    Calls Try.prog 13 #[.slice a l.length cap, .int .u8 (m.toNat : Int)] w fun e w' =>
      e = .returned (.slice (some ⟨w.heap.size, 0, none⟩) (l.length + 80) (l.length + 80)) ∧ Below w.heap.size w w' ∧ Own w' w.heap.size (cellsOf (fillB l m 80)) ∧ w.heap.size < w'.heap.size := by
  obtain ⟨i0, hi, hz0, hz1, hz2⟩ := info_parts info5
  have hmk : ∀ u : World, (Instr.makeSlice 25 (.int .i64 ((l.length : Int) + 80)) (.int .i64 ((l.length : Int) + 80))).run Try.prog u =
      .ok (.slice (some ⟨u.heap.size, 0, none⟩) (l.length + 80) (l.length + 80)) (u.alloc (.cells (List.replicate (l.length + 80) (Value.int .u8 0)).toArray 5)) := fun u => by
    have h := run_make (P := Try.prog) u 25 5 i0 (.int .u8 0) Try.underlying25 hi hz0 .i64 .i64 ((l.length : Int) + 80) ((l.length : Int) + 80) (by omega) (Int.le_refl _) (by rw [hz2]; omega) (by omega)
    have e : ((l.length : Int) + 80).toNat = l.length + 80 := by omega
    rw [e] at h
    have e2 : (madeCells #[Value.int .u8 0] (l.length + 80)) = (List.replicate (l.length + 80) (Value.int .u8 0)).toArray := by
      rw [← toList_madeCells_one]
    rw [← e2]
    simpa [hz1, Value.cells] using h
  have hbA := (Below.refl w.heap.size w).alloc (Nat.le_refl _) (.cells (List.replicate (l.length + 80) (Value.int .u8 0)).toArray 5)
  go_enter Try.func13, Try.ntmps13
  have hO : Own (w.alloc (.cells (Array.replicate (l.length + 80) (Value.int .u8 0)) 5)) w.heap.size (List.replicate (l.length + 80) (Value.int .u8 0)) := by
    unfold Own; rw [List.toArray_replicate]; exact heap_alloc_new w _
  rw [List.toArray_replicate] at hbA
  obtain ⟨w1, hcp, ho1, hb1⟩ := copy_run _ w.heap.size _ (l.length + 80) (l.length + 80) a cap l hO (by omega) (by simp) (h.below hbA)
  have hb1 := hb1 _ _ hbA (Nat.le_refl _)
  rw [copy_cells, fill_start l m] at ho1
  clear hO hbA h
  go_wp2
  go_loopw [6] (fun i wr => ∃ k : Nat, k ≤ 80 ∧ i = .int .i64 ((l.length : Int) + k) ∧ Own wr w.heap.size (cellsOf (fillB l m k)) ∧ Below w.heap.size w wr) (fun i _ => 80 + l.length - (intOf i).toNat)
  case atStart => exact ⟨0, Nat.zero_le _, by simp, ho1, hb1⟩
  case round =>
    obtain ⟨k, hk, rfl, hown, hbr⟩ := hrel
    have HO : Hid (Own wr w.heap.size (cellsOf (fillB l m k))) := hown
    have hcell : k < 80 → wr.cell? ⟨w.heap.size, l.length + k, none⟩ = some (.int .u8 (((fillB l m k).getD (l.length + k) 0).toNat : Int)) := fun hk => by
      rw [hown.cell]; exact cellsOf_get _ _ (by rw [fillB_length _ _ _ (by omega)]; omega)
    have hfree := hown.free (l.length + k)
    clear hown
    by_cases hlt : k < 80
    · have hcell := hcell hlt
      go_wp2
      refine ⟨⟨k + 1, by omega, by go_num, ?_, hbr.setCell (Nat.le_refl _) _⟩, by simp [intOf]; omega⟩
      have := HO.out.set (l.length + k) (.int .u8 (m.toNat : Int))
      rw [cellsOf_set, fillB_set l m k hlt] at this
      exact this
    · have hk80 : k = 80 := by omega
      subst hk80
      go_wp2
      go_ret
      exact ⟨rfl, hbr, HO.out, HO.out.lt⟩
end Go.Proofs.Ytdpgjgoahglgmaa
