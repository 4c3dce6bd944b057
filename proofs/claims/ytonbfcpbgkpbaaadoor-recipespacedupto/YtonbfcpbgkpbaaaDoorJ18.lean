import Derived.Test.YtonbfcpbgkpbaaaDoorJ17
import Derived.WalkKit
import Derived.ProofKit
import Derived.Below
import Derived.OpenShut
import Derived.Test.YtonbfcpbgkpbaaaDoorRows
import Derived.Lib.SmallJoins
import Derived.Test.YtonbfcpbgkpbaaaDoorJ2
import Derived.Lib.AppendStr
import Derived.WalkSpells
import Derived.WalkLawsBesides
section
/- Recipes: what stands at the lines' ends is exchanged: the mathematics. -/
namespace Go.Proofs.YtonbfcpbgkpbaaaDoor
set_option linter.unusedVariables false
set_option linter.unusedSimpArgs false
set_option maxRecDepth 100000
/-- Each end of line becomes w. -/
def spr (w l : List UInt8) : List UInt8 := l.flatMap fun c => if c.toNat = 10 then w else [c]
def noNl (l : List UInt8) : Prop := ∀ x ∈ l, x.toNat ≠ 10
theorem spr_app (w a b : List UInt8) : spr w (a ++ b) = spr w a ++ spr w b := by unfold spr; rw [List.flatMap_append]
theorem spr_no {w l : List UInt8} (h : noNl l) : spr w l = l := by
  induction l with
  | nil => rfl
  | cons c l ih =>
    unfold spr
    rw [List.flatMap_cons, if_neg (h c (by simp))]
    show c :: spr w l = _
    rw [ih (fun x hx => h x (by simp [hx]))]
theorem noNl_app {a b : List UInt8} (ha : noNl a) (hb : noNl b) : noNl (a ++ b) := fun x hx => by
  rcases List.mem_append.1 hx with h | h
  · exact ha x h
  · exact hb x h
theorem noNl_jn {ts : List (List UInt8)} (h : ∀ t ∈ ts, noNl t) : ∀ k, noNl (jn ts k)
  | 0 => by intro x hx; simp [jn] at hx
  | k + 1 => by
    rw [jn_succ]
    refine noNl_app (noNl_jn h k) (noNl_app ?_ ?_)
    · split
      · intro x hx
        simp at hx
        subst hx
        decide
      · intro x hx; simp at hx
    · by_cases hk : k < ts.length
      · rw [List.getD, List.getElem?_eq_getElem hk]
        exact h _ (List.getElem_mem hk)
      · rw [List.getD, List.getElem?_eq_none (by omega)]
        intro x hx
        simp at hx
theorem spr_line {w : List UInt8} {ts : List (List UInt8)} (h : ∀ t ∈ ts, noNl t) : spr w (lnT [10] ts) = lnT w ts := by
  unfold lnT
  rw [spr_app, spr_no (noNl_jn h _)]
  congr 1
  show (if (10 : UInt8).toNat = 10 then w else _) ++ [] = w
  rw [if_pos (by decide), List.append_nil]
theorem spr_text {w : List UInt8} : ∀ {L : List (List (List UInt8))}, (∀ ts ∈ L, ∀ t ∈ ts, noNl t) → spr w (textF [10] L) = textF w L
  | [], _ => rfl
  | ts :: L, h => by
    unfold textF
    rw [List.flatMap_cons, List.flatMap_cons, spr_app, spr_line (h ts (by simp))]
    congr 1
    exact spr_text (fun t ht => h t (by simp [ht]))
theorem noNl_quote (l : List UInt8) : noNl (quoteF l) := by
  have hb : ∀ c, noNl (quoteB c) := by
    intro c x hx
    have hc := c.toNat_lt
    unfold quoteB at hx
    split at hx
    · rename_i h
      simp at hx
      rcases hx with rfl | rfl
      · decide
      · omega
    · split at hx
      · simp at hx
        subst hx
        omega
      · simp at hx
        have h1 := hexC_nat (n := c.toNat / 16) (by omega)
        have h2 := hexC_nat (n := c.toNat % 16) (by omega)
        rcases hx with rfl | rfl | rfl
        · decide
        · split at h1 <;> omega
        · split at h2 <;> omega
  intro x hx
  unfold quoteF at hx
  rcases List.mem_cons.1 hx with rfl | hx
  · decide
  · rcases List.mem_append.1 hx with hx | hx
    · obtain ⟨c, _, hc⟩ := List.mem_flatMap.1 hx
      exact hb c x hc
    · simp at hx
      subst hx
      decide
theorem noNl_rune {n : Nat} (h : n ≤ 1114111) : noNl (runeTok n) := by
  intro x hx
  unfold runeTok at hx
  rcases List.mem_cons.1 hx with rfl | hx
  · decide
  · rcases List.mem_cons.1 hx with rfl | hx
    · decide
    · have := (rune_val h).1 x hx
      simp [capB, digitB] at this
      omega
theorem noNl_dec {v : Nat} (h : v < 1000) : noNl (dec3 v) := by
  intro x hx
  have a := (dec_digit (d := v / 100) (by omega)).1
  have b := (dec_digit (d := v / 10 % 10) (by omega)).1
  have c := (dec_digit (d := v % 10) (by omega)).1
  unfold dec3 at hx
  simp only [List.mem_cons, List.mem_nil_iff, or_false] at hx
  rcases hx with rfl | rfl | rfl <;> omega
theorem noNl_cls {i : Nat} {l : List Sp} (h : l.all spOk = true) : ∀ t ∈ clsT (clsNm i) l, noNl t := by
  intro t ht
  unfold clsT at ht
  simp only [List.mem_append, List.mem_cons, List.mem_nil_iff, or_false, List.mem_flatMap] at ht
  have hd : ∀ l : List UInt8, (l.all fun x => x.toNat != 10) = true → noNl l := fun l h x hx => by
    have := List.all_eq_true.1 h x hx
    simpa using this
  rcases ht with (h1 | ⟨x, hx, h1⟩) | h1
  · rcases h1 with rfl | rfl
    · unfold clsNm
      split
      · exact hd _ (by decide)
      · split
        · exact hd _ (by decide)
        · exact hd _ (by decide)
    · exact hd _ (by decide)
  · obtain ⟨a, b, e1, e2, _, _, l1, l2⟩ := sp_scal (List.all_eq_true.1 h x hx)
    unfold spT at h1
    rw [e1, e2] at h1
    simp only [Int.toNat_natCast] at h1
    split at h1
    · simp at h1
      subst h1
      exact noNl_rune l1
    · simp at h1
      rcases h1 with rfl | rfl | rfl
      · exact noNl_rune l1
      · exact hd _ (by decide)
      · exact noNl_rune l2
  · subst h1
    exact hd _ (by decide)
theorem noNl_lines {ws : List ByteArray} {ms : List Mg} {A B C : List Sp} (hm : ms.length ≤ 700) (h1 : wordsOk ws ms = true) (h2 : runesOk A B C = true) : ∀ ts ∈ linesF ws ms A B C, ∀ t ∈ ts, noNl t := by
  simp only [wordsOk, Bool.and_eq_true, decide_eq_true_eq] at h1
  simp only [runesOk, Bool.and_eq_true] at h2
  have hid := made_ids ms _ (fun j hj => decide_eq_true hj) h1.2
  have hd : ∀ l : List UInt8, (l.all fun x => x.toNat != 10) = true → noNl l := fun l h x hx => by
    have := List.all_eq_true.1 h x hx
    simpa using this
  intro ts hts
  unfold linesF at hts
  rcases List.mem_append.1 hts with h | h
  · obtain ⟨x, hx, rfl⟩ := List.mem_map.1 h
    obtain ⟨v, hv, hv1, hv2⟩ := (hid x hx).1
    intro t ht
    unfold mergeT at ht
    simp only [List.mem_cons, List.mem_nil_iff, or_false] at ht
    rcases ht with rfl | rfl | rfl | rfl | rfl | rfl
    · exact hd _ (by decide)
    · exact noNl_quote _
    · exact hd _ (by decide)
    · exact noNl_quote _
    · exact hd _ (by decide)
    · rw [hv]
      exact noNl_dec (by simp; omega)
  · simp only [List.mem_cons, List.mem_nil_iff, or_false] at h
    rcases h with rfl | rfl | rfl
    · exact noNl_cls h2.1.1
    · exact noNl_cls h2.1.2
    · exact noNl_cls h2.2
theorem text_len {w : List UInt8} (hw : 1 ≤ w.length) : ∀ L : List (List (List UInt8)), (textF w L).length = (textF [10] L).length + L.length * (w.length - 1)
  | [] => by simp [textF]
  | ts :: L => by
    have ih := text_len hw L
    unfold textF at ih ⊢
    rw [List.flatMap_cons, List.flatMap_cons, List.length_append, List.length_append, ih, List.length_cons, Nat.add_mul]
    unfold lnT
    rw [List.length_append, List.length_append]
    show _ = _ + 1 + _ + _
    omega
/-- The remark's bytes. -/
def remB (t : List UInt8) : List UInt8 := t.filter fun c => c.toNat != 10
def gapW (bb : List UInt8) : List UInt8 := [32, 35] ++ bb ++ [10]
theorem gap_w {bb : List UInt8} (h : noNl bb) : Gap (gapW bb) := by
  refine ⟨?_, 32, _, rfl, by decide⟩
  have : gapW bb = [32] ++ (35 :: bb ++ [10]) := by unfold gapW; simp
  rw [this]
  exact blk_app (blk_one (by decide)) (blk_rem h)
theorem rem_no (t : List UInt8) : noNl (remB t) := by
  intro x hx
  unfold remB at hx
  have := (List.mem_filter.1 hx).2
  simpa using this
theorem rem_len (t : List UInt8) : (remB t).length ≤ t.length := List.length_filter_le _ _
/-- What stands ahead of the recipe. -/
def headW (bb : List UInt8) : List UInt8 := [9, 13, 10, 35, 32] ++ bb ++ [10]
theorem blk_head {bb : List UInt8} (h : noNl bb) : Blk (headW bb) := by
  have : headW bb = [9] ++ ([13] ++ ([10] ++ (35 :: (32 :: bb) ++ [10]))) := by unfold headW; simp
  rw [this]
  refine blk_app (blk_one (by decide)) (blk_app (blk_one (by decide)) (blk_app (blk_one (by decide)) (blk_rem ?_)))
  intro x hx
  rcases List.mem_cons.1 hx with rfl | hx
  · decide
  · exact h x hx
/-- The law's own text is read as what was printed. -/
theorem parse_spaced {ws : List ByteArray} {ms : List Mg} {A B C : List Sp} {t : List UInt8} (hm : ms.length ≤ 100) (h0 : (printF ws ms A B C).2 = 0) (ht : t.length ≤ 100) (hl : (printF ws ms A B C).1.length ≤ 100000) :
    (spr (gapW (remB t)) (printF ws ms A B C).1).length ≤ 200000 ∧ parseA (headW (remB t) ++ (spr (gapW (remB t)) (printF ws ms A B C).1 ++ [35])) = .ok ⟨ws.map (fun w => tl w), ms, A, B, C⟩ := by
  unfold printF at h0 hl ⊢
  by_cases h1 : wordsOk ws ms = true
  · rw [if_pos h1] at h0 hl ⊢
    by_cases h2 : runesOk A B C = true
    · rw [if_pos h2] at h0 hl ⊢
      have hr := rem_len t
      have hg : (gapW (remB t)).length ≤ 103 := by unfold gapW; simp; omega
      have hg1 : 1 ≤ (gapW (remB t)).length := by unfold gapW; simp
      have hLl : (linesF ws ms A B C).length ≤ 103 := by unfold linesF; simp; omega
      simp only at hl ⊢
      rw [spr_text (noNl_lines (by omega) h1 h2)]
      have hle : (textF (gapW (remB t)) (linesF ws ms A B C)).length ≤ 200000 := by
        rw [text_len hg1]
        have : (linesF ws ms A B C).length * ((gapW (remB t)).length - 1) ≤ 103 * 102 := Nat.mul_le_mul hLl (by omega)
        omega
      refine ⟨hle, parse_text (gap_w (rem_no t)) (blk_head (rem_no t)) (by rfl) (by omega) h1 h2 ?_⟩
      have hh : (headW (remB t)).length ≤ 106 := by unfold headW; simp; omega
      rw [List.length_append, List.length_append]
      show _ + (_ + 1) ≤ _
      omega
    · rw [if_neg h2] at h0
      cases h0
  · rw [if_neg h1] at h0
    cases h0
theorem spr_len {w : List UInt8} : ∀ l : List UInt8, (spr w l).length ≤ l.length * (w.length + 1)
  | [] => by simp [spr]
  | c :: l => by
    have ih := spr_len (w := w) l
    unfold spr at ih ⊢
    rw [List.flatMap_cons, List.length_append, List.length_cons, Nat.add_mul, Nat.one_mul]
    split
    · omega
    · show 1 + _ ≤ _
      omega
end Go.Proofs.YtonbfcpbgkpbaaaDoor
end
section
/- What a list of bytes in memory is, and that it stays so while new memory is made. -/
namespace Go.Proofs.YtonbfcpbgkpbaaaDoor
open Go.RowKit
/-- The slice that begins at 'a' holds the bytes l. -/
def BS (w : World) (a : Option Addr) (l : List UInt8) : Prop :=
  l = [] ∨ ∃ b off, a = some ⟨b, off, none⟩ ∧ ∀ j, j < l.length → w.cell? ⟨b, off + j, none⟩ = some (.int .u8 ((l.getD j 0).toNat : Int))
theorem BS.below {w w' : World} {a : Option Addr} {l : List UInt8} (h : BS w a l) (hb : Below w.heap.size w w') : BS w' a l := by
  rcases h with h | ⟨b, off, rfl, hc⟩
  · exact .inl h
  · refine .inr ⟨b, off, rfl, fun j hj => ?_⟩
    have h1 := hc j hj
    rw [hb.cell (World.block_lt_of_cell? w _ h1)]
    exact h1
theorem BS.nil (w : World) (a : Option Addr) : BS w a [] := .inl rfl
theorem BS.take {w : World} {a : Option Addr} {l : List UInt8} (h : BS w a l) (n : Nat) : BS w a (l.take n) := by
  rcases h with rfl | ⟨b, off, rfl, hc⟩
  · exact .inl (by simp)
  · refine .inr ⟨b, off, rfl, fun j hj => ?_⟩
    have hj' : j < l.length := by simp at hj; omega
    have hjn : j < n := by simp at hj; omega
    rw [hc j hj']
    simp [List.getD, hjn]
/-- A list's cells. -/
def cellsOf (l : List UInt8) : List Value := l.map fun c => .int .u8 (c.toNat : Int)
theorem cellsOf_get (l : List UInt8) (j : Nat) (h : j < l.length) : (cellsOf l)[j]? = some (.int .u8 ((l.getD j 0).toNat : Int)) := by
  simp [cellsOf, List.getD, List.getElem?_eq_getElem h]
theorem BS.new (w : World) (l : List UInt8) (t : TypeId) : BS (w.alloc (.cells (cellsOf l).toArray t)) (some ⟨w.heap.size, 0, none⟩) l := by
  refine .inr ⟨_, _, rfl, fun j hj => ?_⟩
  rw [Nat.zero_add, World.cell?_alloc_at _ _ _ _ rfl]
  simpa using cellsOf_get l j hj
/-- The same of a constant text's bytes, which bear the run-time's mark behind them. -/
theorem BS.marked (w : World) (l : List UInt8) (t : TypeId) (fr : Nat × Nat) : BS (w.alloc (.cells (cellsOf l).toArray t fr)) (some ⟨w.heap.size, 0, none⟩) l := by
  refine .inr ⟨_, _, rfl, fun j hj => ?_⟩
  rw [Nat.zero_add, World.cell?_alloc_mark]
  simpa using cellsOf_get l j hj
/-- A slice of bytes that came in, as the frame of a statement's proof opens it. -/
def IsRow (k : IntKind) (w : World) (a : Option Addr) (len cap : Nat) (zs : List Int) : Prop :=
  (a = none ∧ len = 0 ∧ cap = 0 ∧ zs = []) ∨
  ∃ x, a = some x ∧ len ≤ cap ∧ cap ≤ maxLen ∧ zs.length = cap ∧ (∀ i, i < zs.length → w.cell? (x.add i) = some (.int k (zs.getD i 0))) ∧ ∀ n ∈ zs, (Lit.int k n).wf = true
theorem IsRow.view {w : World} {a : Option Addr} {len cap : Nat} {zs : List Int} (h : IsRow .u8 w a len cap zs) : ∃ l : List UInt8, len = l.length ∧ l.length ≤ cap ∧ cap ≤ 9223372036854775807 ∧ BS w a l := by
  rcases h with ⟨rfl, rfl, rfl, rfl⟩ | ⟨x, rfl, hl, hm, hz, hc, hwf⟩
  · exact ⟨[], rfl, by simp, by omega, .inl rfl⟩
  · unfold maxLen at hm
    refine ⟨(zs.take len).map fun z => UInt8.ofNat z.toNat, by simp; omega, by simp; omega, hm, ?_⟩
    by_cases h0 : len = 0
    · subst h0; exact .inl (by simp)
    · obtain ⟨b, off, rfl, hcell⟩ := Go.ints_at hc (by omega)
      refine .inr ⟨b, off, rfl, fun j hj => ?_⟩
      have hj' : j < len := by simp at hj; omega
      have hjz : j < zs.length := by omega
      rw [hcell j hjz]
      have hb := hwf (zs.getD j 0) (by simp [List.getD, List.getElem?_eq_getElem hjz])
      have hb' : 0 ≤ zs.getD j 0 ∧ zs.getD j 0 ≤ 255 := by simpa [Lit.wf, IntKind.min, IntKind.max, IntKind.signed, IntKind.bits] using hb
      have e : (((zs.take len).map fun z => UInt8.ofNat z.toNat).getD j 0).toNat = (zs.getD j 0).toNat := by
        simp only [List.getD, List.getElem?_map, List.getElem?_take, if_pos hj', List.getElem?_eq_getElem hjz, Option.map_some, Option.getD_some] at hb' ⊢
        rw [UInt8.toNat_ofNat']
        omega
      rw [e]
      congr 2
      omega
end Go.Proofs.YtonbfcpbgkpbaaaDoor
end
section
/- Bytes in memory that a call itself made. -/
namespace Go.Proofs.YtonbfcpbgkpbaaaDoor
set_option maxRecDepth 100000
open Go.RowKit
open Go.Joins
/-- A block of bytes that the call itself made. -/
def Own (w : World) (g : Nat) (L : List Value) : Prop := w.heap[g]? = some (.cells L.toArray 5 (0, 0))
theorem Own.below {w w' : World} {g : Nat} {L : List Value} {B : Nat} (h : Own w g L) (hb : Below B w w') (hg : g < B) : Own w' g L := by
  unfold Own; rw [hb.block g hg]; exact h
theorem Own.lt {w : World} {g : Nat} {L : List Value} (h : Own w g L) : g < w.heap.size := (Array.getElem?_eq_some_iff.1 h).1
theorem Own.cell {w : World} {g : Nat} {L : List Value} (h : Own w g L) (j : Nat) : w.cell? ⟨g, j, none⟩ = L[j]? := by
  rw [cell_of_block h]; simp
theorem Own.free {w : World} {g : Nat} {L : List Value} (h : Own w g L) (j : Nat) : w.frozen? ⟨g, j, none⟩ = false := unfrozen_of_block h j
theorem Own.set {w : World} {g : Nat} {L : List Value} (h : Own w g L) (j : Nat) (v : Value) : Own (w.setCell ⟨g, j, none⟩ v) g (L.set j v) := by
  have := block_setCell h (i := j) v
  unfold Own; rw [this]; simp
theorem Own.bs {w : World} {g : Nat} {l r : List UInt8} (h : Own w g (cellsOf (l ++ r))) : BS w (some ⟨g, 0, none⟩) l := by
  refine .inr ⟨_, _, rfl, fun j hj => ?_⟩
  rw [Nat.zero_add, h.cell, cellsOf_get _ j (by simp; omega)]
  simp [List.getD, List.getElem?_append_left hj]
theorem cellsOf_length (l : List UInt8) : (cellsOf l).length = l.length := by simp [cellsOf]
theorem cellsOf_append (l r : List UInt8) : cellsOf (l ++ r) = cellsOf l ++ cellsOf r := by simp [cellsOf]
theorem cellsOf_one (l : List UInt8) : ∀ v ∈ cellsOf l, v.oneCell' = true := by
  intro v hv; simp [cellsOf] at hv; obtain ⟨c, _, rfl⟩ := hv; rfl
theorem cellsOf_set (l : List UInt8) (j : Nat) (c : UInt8) : (cellsOf l).set j (.int .u8 (c.toNat : Int)) = cellsOf (l.set j c) := by
  simp [cellsOf, List.map_set]
theorem info5 : (Tryd.prog.info? 5).map (fun i => (i.zero, i.size, i.bytes)) = some (some (.int .u8 0), 1, 1) := by kernel_rfl
theorem size5 : (Tryd.prog.info? 5).map (·.size) = some 1 := by kernel_rfl
end Go.Proofs.YtonbfcpbgkpbaaaDoor
end
section
/- Appending bytes to bytes: what a run leaves. -/
namespace Go.Proofs.YtonbfcpbgkpbaaaDoor
open Go.RowKit
open Go.Joins
/-- The value v owns the bytes l, in memory from block 'base' on. -/
def OwnS (w : World) (base : Nat) (v : Value) (l : List UInt8) : Prop := w.ownsRow base 5 1 v l.length (cellsOf l)
theorem OwnS.below {w w' : World} {base : Nat} {v : Value} {l : List UInt8} {B : Nat} (h : OwnS w base v l) (hb : Below B w w') (hB : w.heap.size ≤ B) : OwnS w' base v l := by
  refine ⟨h.1, ?_⟩
  rcases h.2 with h0 | ⟨g, cap, cur, hv, hg, hh, r⟩
  · exact .inl h0
  · refine .inr ⟨g, cap, cur, hv, hg, ?_, r⟩
    rw [hb.block g (Nat.lt_of_lt_of_le (Array.getElem?_eq_some_iff.1 hh).1 hB)]
    exact hh
theorem OwnS.form {w : World} {base : Nat} {v : Value} {l : List UInt8} (h : OwnS w base v l) (hl : 0 < l.length) :
    ∃ g cap, v = .slice (some ⟨g, 0, none⟩) l.length cap ∧ base ≤ g ∧ g < w.heap.size ∧ l.length ≤ cap ∧ cap ≤ 9223372036854775807 ∧ BS w (some ⟨g, 0, none⟩) l := by
  rcases h.2 with ⟨_, h0⟩ | ⟨g, cap, cur, hv, hg, hh, hn, hm, _, ht⟩
  · omega
  · refine ⟨g, cap, hv, hg, (Array.getElem?_eq_some_iff.1 hh).1, hn, by simpa [maxLen] using hm, .inr ⟨g, 0, rfl, fun j hj => ?_⟩⟩
    subst hv
    rw [Nat.zero_add, World.ownsRow.cellAt h j (by omega)]
    exact cellsOf_get l j hj
theorem BS.cells {w : World} {x : Addr} {l : List UInt8} (h : BS w (some x) l) : ∀ j u, (cellsOf l)[j]? = some u → w.cell? (x.add j) = some u := by
  intro j u hu
  rcases h with rfl | ⟨b, off, hx, hc⟩
  · simp [cellsOf] at hu
  · obtain rfl := Option.some.inj hx
    have hj : j < l.length := by
      rcases Nat.lt_or_ge j l.length with h | h
      · exact h
      · rw [List.getElem?_eq_none (by rw [cellsOf_length]; exact h)] at hu; cases hu
    rw [cellsOf_get l j hj] at hu
    rw [cell_add, hc j hj]; exact hu
/-- Onto what is owned: bytes. -/
theorem run_own_bytes (W : World) (base : Nat) (v : Value) (l r : List UInt8) (a : Option Addr) (cap : Nat) (hown : OwnS W base v l) (h : BS W a r) (hnil : a = none → cap = 0) (hb : base ≤ W.heap.size)
    (hsz : l.length + r.length ≤ 140737488355328) :
    ∃ v' w', (Builtin.append_ #[35, 35] 35 #[v, .slice a r.length cap]).run Tryd.prog W = .ok v' w' ∧ OwnS w' base v' (l ++ r) ∧ Below base W w' := by
  obtain ⟨i0, hi, hz0, hz1, hz2⟩ := info_parts info5
  cases a with
  | none =>
    have hr : r = [] := by
      rcases h with h | ⟨b, off, h, _⟩
      · exact h
      · cases h
    subst hr
    rw [hnil rfl]
    exact ⟨v, W, run_append_owned_none (P := Tryd.prog) W base 35 35 5 i0 1 Tryd.underlying35 hi v _ _ hown, by rw [List.append_nil]; exact hown, Below.refl _ _⟩
  | some x =>
    obtain ⟨v', w', h1, h2, h3, _⟩ := run_append_own (P := Tryd.prog) W base 35 35 5 i0 (.int .u8 0) 1 1 Tryd.underlying35 hi hz0 hz1 hz2 rfl (by decide) v l.length (cellsOf l) hown x r.length cap (cellsOf r) (by rw [cellsOf_length, Nat.mul_one]) h.cells (cellsOf_one r) (by unfold maxLen; omega) (by omega) hb
    refine ⟨v', w', h1, ?_, (Below.refl base W).grown h3 hb (fun k hk => (hown.lt k hk).1)⟩
    unfold OwnS
    rw [List.length_append, cellsOf_append]
    exact h2
/-- Onto what is owned: a text. -/
theorem run_own_text (W : World) (base : Nat) (v : Value) (l : List UInt8) (s : ByteArray) (hown : OwnS W base v l) (hb : base ≤ W.heap.size) (hsz : l.length + s.size ≤ 140737488355328) :
    ∃ v' w', (Builtin.append_ #[35, 9] 35 #[v, .string s]).run Tryd.prog W = .ok v' w' ∧ OwnS w' base v' (l ++ s.data.toList) ∧ Below base W w' := by
  obtain ⟨i0, hi, hz0, hz1, hz2⟩ := info_parts info5
  obtain ⟨v', w', h1, h2, h3, _⟩ := Lib.run_append_own_string (P := Tryd.prog) W base 35 9 35 5 i0 Tryd.underlying35 Tryd.underlying9 hi hz0 hz1 hz2 v l.length (cellsOf l) hown s (by unfold maxLen; omega) (by omega) hb
  refine ⟨v', w', h1, ?_, (Below.refl base W).grown h3 hb (fun k hk => (hown.lt k hk).1)⟩
  unfold OwnS
  rw [List.length_append, cellsOf_append, show s.data.toList.length = s.size from Array.length_toList]
  exact h2
/-- Onto a slice that has no room: a new row. -/
theorem run_full_bytes (W : World) (a : Option Addr) (l r : List UInt8) (x : Addr) (cap : Nat) (hl : BS W a l) (h : BS W (some x) r) (hr : 0 < r.length) (hsz : l.length + r.length ≤ 140737488355328) :
    ∃ v' w', (Builtin.append_ #[35, 35] 35 #[.slice a l.length l.length, .slice (some x) r.length cap]).run Tryd.prog W = .ok v' w' ∧ OwnS w' W.heap.size v' (l ++ r) ∧ Below W.heap.size W w' := by
  obtain ⟨i0, hi, hz0, hz1, hz2⟩ := info_parts info5
  cases a with
  | none =>
    have hl0 : l = [] := by
      rcases hl with h | ⟨b, off, h, _⟩
      · exact h
      · cases h
    subst hl0
    exact run_own_bytes W W.heap.size (.slice none 0 0) [] r (some x) cap (World.ownsRow_nil W _ 5 1) h (fun e => by cases e) (Nat.le_refl _) hsz
  | some b =>
    obtain ⟨v', w', h1, h2, h3⟩ := run_append_arg_grows (P := Tryd.prog) W 35 35 5 i0 (.int .u8 0) 1 1 Tryd.underlying35 hi hz0 hz1 hz2 rfl (by decide) b l.length l.length (cellsOf l) (by rw [cellsOf_length, Nat.mul_one]) hl.cells x r.length cap (cellsOf r) (by rw [cellsOf_length, Nat.mul_one]) h.cells (by omega) (by unfold maxLen; omega) (by omega)
    refine ⟨v', w', h1, ?_, (Below.refl _ W).grown h3 (Nat.le_refl _) (fun k hk => by cases hk)⟩
    unfold OwnS
    rw [List.length_append, cellsOf_append]
    exact h2
/-- A number's four bytes. -/
def be4 (n : Nat) : List UInt8 := [UInt8.ofNat (n / 16777216), UInt8.ofNat (n / 65536), UInt8.ofNat (n / 256), UInt8.ofNat n]
theorem be4_cells (n : Nat) (h : n < 4294967296) : (cellsOf (be4 n)).toArray = #[.int .u8 ((n : Int) / 16777216), .int .u8 ((n : Int) / 65536 % 256), .int .u8 ((n : Int) / 256 % 256), .int .u8 ((n : Int) % 256)] := by
  simp only [cellsOf, be4, List.map_cons, List.map_nil, UInt8.toNat_ofNat']
  have e0 : ((n / 16777216 % 2 ^ 8 : Nat) : Int) = (n : Int) / 16777216 := by omega
  have e1 : ((n / 65536 % 2 ^ 8 : Nat) : Int) = (n : Int) / 65536 % 256 := by omega
  have e2 : ((n / 256 % 2 ^ 8 : Nat) : Int) = (n : Int) / 256 % 256 := by omega
  have e3 : ((n % 2 ^ 8 : Nat) : Int) = (n : Int) % 256 := by omega
  rw [e0, e1, e2, e3]
end Go.Proofs.YtonbfcpbgkpbaaaDoor
end
section
/- RecipeSpaced: the walk. -/
namespace Go.Proofs.YtonbfcpbgkpbaaaDoor
open Go.RowKit Go.Sort Go.Joins
set_option linter.unusedVariables false
set_option linter.unusedSimpArgs false
set_option maxRecDepth 100000
def few1 (s : ByteArray) : ByteArray := if 100 < s.size then s.extract 0 100 else s
theorem few1_len (s : ByteArray) : (tl (few1 s)).length ≤ 100 := by
  unfold few1
  split
  · rw [tl_first, List.length_take]; omega
  · rw [tl_len]; omega
theorem few100_any (s : ByteArray) (hs : s.size ≤ 1048576) (w : World) : Calls Tryd.prog 11 #[.string s, .int .i64 100] w fun e w' => e = .returned (.string (few1 s)) ∧ w' = w := by
  by_cases h : 100 < s.size
  · have hf : few1 s = s.extract 0 100 := by unfold few1; rw [if_pos h]
    rw [hf]
    have d : decide ((100 : Int) < (s.size : Int)) = true := decide_eq_true (by omega)
    have hle : (100 : Int) ≤ (s.size : Int) := by omega
    go_enter Tryd.func11, Tryd.ntmps11
    go_wp2
    go_ret
    exact ⟨rfl, rfl⟩
  · have hf : few1 s = s := by unfold few1; rw [if_neg h]
    rw [hf]
    have d : decide ((100 : Int) < (s.size : Int)) = false := decide_eq_false (by omega)
    go_enter Tryd.func11, Tryd.ntmps11
    go_wp2
    go_ret
    exact ⟨rfl, rfl⟩
/-- One byte is put behind what is owned. -/
theorem put_one (wr : World) (base : Nat) (v : Value) (acc : List UInt8) (c : UInt8) (h : Oc.OwnS wr base v acc) (hb : base ≤ wr.heap.size) (hn : acc.length + 1 ≤ 140737488355328) :
    ∃ v' w', (Builtin.append_ #[35, 35] 35 #[v, .slice (some ⟨wr.heap.size, 0, none⟩) 1 1]).run Tryd.prog (wr.alloc (.cells #[.int .u8 (c.toNat : Nat)] 5)) = .ok v' w' ∧ Oc.OwnS w' base v' (acc ++ [c]) ∧ Below base wr w' := by
  have hbx : Below wr.heap.size wr (wr.alloc (.cells #[.int .u8 (c.toNat : Nat)] 5)) := box_below wr _
  have hx := heap_alloc_new wr (.cells #[.int .u8 (c.toNat : Nat)] 5)
  obtain ⟨v', w', h1, h2, h3⟩ := Oc.run_own_bytes (wr.alloc (.cells #[.int .u8 (c.toNat : Nat)] 5)) base v acc [c] (some ⟨wr.heap.size, 0, none⟩) 1 (h.below hbx (Nat.le_refl _)) (.inr ⟨wr.heap.size, 0, rfl, fun j hj => by
    have hj0 : j = 0 := by
      have : j < 1 := hj
      omega
    rw [hj0, cell_of_block hx]
    rfl⟩) (fun e => by cases e) (Nat.le_trans hb hbx.size) (by simpa using hn)
  exact ⟨v', w', h1, h2, (hbx.mono hb).trans h3⟩
theorem u8_ne {c : UInt8} (h : c.toNat ≠ 10) : (((c.toNat : Nat) : Int) != 10) = true ∧ (((c.toNat : Nat) : Int) == 10) = false := by
  constructor
  · simp; omega
  · simp; omega
theorem own_shape {w : World} {base : Nat} {v : Value} {l : List UInt8} (h : Oc.OwnS w base v l) : ∃ a c, v = .slice a l.length c := by
  rcases h.2 with ⟨h0, h1⟩ | ⟨g, cap, cur, hv, _⟩
  · exact ⟨none, 0, by rw [h0, h1]⟩
  · exact ⟨_, _, hv⟩
theorem own_view {w : World} {base : Nat} {a : Option Addr} {c : Nat} {l : List UInt8} (h : Oc.OwnS w base (.slice a l.length c) l) : Oc.BS w a l ∧ (a = none → c = 0) := by
  rcases h.2 with ⟨h0, h1⟩ | ⟨g, cap, cur, hv, _⟩
  · simp only [Value.slice.injEq] at h0
    refine ⟨.inl (List.eq_nil_of_length_eq_zero h1), fun _ => h0.2.2⟩
  · simp only [Value.slice.injEq, true_and] at hv
    obtain ⟨rfl, _⟩ := hv
    refine ⟨?_, fun e => by cases e⟩
    by_cases hl : 0 < l.length
    · obtain ⟨g', c', e, _, _, _, _, hb⟩ := h.form hl
      simp only [Value.slice.injEq, Option.some.injEq, Addr.mk.injEq, and_true, true_and] at e
      rw [e.1]; exact hb
    · exact .inl (List.eq_nil_of_length_eq_zero (by omega))
theorem tl_at (s : ByteArray) (i : Nat) (h : i < s.size) : (tl s)[i]? = some s[i] := by
  have hl : i < (tl s).length := by rw [tl_len]; exact h
  rw [List.getElem?_eq_getElem hl]
  rfl
theorem take_next {l : List UInt8} {k : Nat} {c : UInt8} (h : l[k]? = some c) : l.take (k + 1) = l.take k ++ [c] := by rw [List.take_add_one, h]; rfl
set_option maxHeartbeats 8000000 in
theorem spaced_walk (aw am a b c : Option Addr) (cw cm ca cb cc : Nat) (ws : List ByteArray) (ms : List Mg) (A B C : List Sp) (tail : ByteArray) (w : World) (hD : PrD w aw am a b c ws ms A B C) (hW : ws.length ≤ 1048576) (hM : ms.length ≤ 1048576) (hbig : ∀ x ∈ ws, x.size ≤ 1048576) (hA : A.length ≤ 1048576) (hB : B.length ≤ 1048576) (hC : C.length ≤ 1048576) (hT : tail.size ≤ 1048576) (hP : PT w) :
    Calls Tryd.prog 5 #[.agg #[.slice aw ws.length cw, .slice am ms.length cm, .slice a A.length ca, .slice b B.length cb, .slice c C.length cc], .string tail] w fun e w' => e = .returned (.bool true) ∧ Below w.heap.size w w' := by
  have hX := DBox.new w (.slice aw ws.length cw) (.slice am ms.length cm) (.slice a A.length ca) (.slice b B.length cb) (.slice c C.length cc)
  have hb0 := box_below w (.cells #[.slice aw ws.length cw, .slice am ms.length cm, .slice a A.length ca, .slice b B.length cb, .slice c C.length cc] 26)
  obtain ⟨Y, hY⟩ : ∃ Y, Y = w.alloc (.cells #[.slice aw ws.length cw, .slice am ms.length cm, .slice a A.length ca, .slice b B.length cb, .slice c C.length cc] 26) := ⟨_, rfl⟩
  rw [← hY] at hb0 hX
  have HY := Lib.hid hY
  have hDY := hD.below hb0
  have hPY : PT Y := hP.stays hb0
  have HB0 := Lib.hid hb0
  clear hY hb0 hP hD
  obtain ⟨z, hz⟩ : ∃ z, z = w.heap.size := ⟨_, rfl⟩
  have HZ := Lib.hid hz
  rw [← hz] at hX
  clear hz
  have HD := Lib.hid hX
  obtain ⟨nw, hnw⟩ : ∃ nw, nw = ws.length := ⟨_, rfl⟩
  obtain ⟨nm, hnm⟩ : ∃ nm, nm = ms.length := ⟨_, rfl⟩
  obtain ⟨na, hna⟩ : ∃ na, na = A.length := ⟨_, rfl⟩
  obtain ⟨nb, hnb⟩ : ∃ nb, nb = B.length := ⟨_, rfl⟩
  obtain ⟨nc, hnc⟩ : ∃ nc, nc = C.length := ⟨_, rfl⟩
  by_cases hm : nm ≤ 100
  · have hZ : PrZ ws ms A B C := ⟨hW, by omega, hbig, hA, hB, hC⟩
    have HSZ := Lib.hid hZ
    have HPR := print_any aw am a b c cw cm ca cb cc ws ms A B C Y hDY hZ hPY
    obtain ⟨R, hR⟩ : ∃ R, R = printF ws ms A B C := ⟨_, rfl⟩
    rw [← hR] at HPR
    have hcd := print_codes ws ms A B C
    rw [← hR] at hcd
    have HR := Lib.hid hR
    have HDY := Lib.hid hDY
    have HPY := Lib.hid hPY
    have x0 := hX.c0
    have x1 := hX.c1
    have x2 := hX.c2
    have x3 := hX.c3
    have x4 := hX.c4
    have d0 : decide ((100 : Int) < (nm : Nat)) = false := decide_eq_false (by omega)
    have d1 : decide (100 < nm) = false := decide_eq_false (by omega)
    have HNW := Lib.hid hnw
    have HNM := Lib.hid hnm
    have HNA := Lib.hid hna
    have HNB := Lib.hid hnb
    have HNC := Lib.hid hnc
    rw [← hnw] at x0 HPR HY HD ⊢
    rw [← hnm] at x1 HPR HY HD ⊢
    rw [← hna] at x2 HPR HY HD ⊢
    rw [← hnb] at x3 HPR HY HD ⊢
    rw [← hnc] at x4 HPR HY HD ⊢
    clear hX hDY hPY hR hnw hnm hna hnb hnc hZ hW hM hA hB hC hbig
    go_enter Tryd.func5, Tryd.ntmps5
    go_upto_region 1 with fail
    rw [← HY.out, ← HZ.out]
    clear HY
    go_wp2_with fail
    refine HPR.mono ?_
    rintro e w1 ⟨rfl, hb1⟩
    clear HPR
    obtain ⟨T, E⟩ := R
    simp only at hcd
    have hB1 := HB0.out.trans (hb1.mono HB0.out.size)
    rcases hcd with rfl | ⟨rfl, rfl | rfl⟩
    · have HT := Lib.hid (show (printF ws ms A B C).1 = T ∧ (printF ws ms A B C).2 = 0 by rw [← HR.out]; exact ⟨rfl, rfl⟩)
      have hTl := print_len HSZ.out
      rw [HT.out.1] at hTl
      have HF := few100_any tail hT w1
      have hfl := few1_len tail
      have HB1 := Lib.hid hB1
      have HD1 := Lib.hid (HD.out.below hb1 HD.out.lt)
      have HDY1 := Lib.hid (HDY.out.below hb1)
      have HPY1 := Lib.hid (show PT w1 from HPY.out.stays hb1)
      clear hB1 hb1 HD HDY HPY HB0 x0 x1 x2 x3 x4
      go_wp2_with fail
      refine HF.mono ?_
      rintro e w2 ⟨rfl, he⟩
      obtain rfl := he.symm
      clear HF
      obtain ⟨tf, htf⟩ : ∃ tf, tf = few1 tail := ⟨_, rfl⟩
      rw [← htf] at hfl ⊢
      clear htf
      have hts : tf.size ≤ 100 := by rw [← tl_len]; exact hfl
      go_wp2_with fail
      go_loopw [7, 9] (fun v7 v9 wr => ∃ (i : Nat) (acc : List UInt8) (v : Value), v = v7 ∧ i ≤ tf.size ∧ v9 = .int .i64 (i : Nat) ∧ acc = remB ((tl tf).take i) ∧ Oc.OwnS wr w1.heap.size v acc ∧ Below w1.heap.size w1 wr) (fun _ v9 _ => tf.size - (intOf v9).toNat)
      case atStart => exact ⟨0, [], _, rfl, Nat.zero_le _, rfl, rfl, ⟨rfl, .inl ⟨rfl, rfl⟩⟩, Below.refl _ _⟩
      case round =>
        obtain ⟨i, acc, vb, rfl, hi, rfl, hacc, hO, hB⟩ := hrel
        by_cases hlt : i < tf.size
        · have g0 : decide ((i : Int) < (tf.size : Int)) = true := decide_eq_true (by omega)
          have htn := take_next (tl_at tf i hlt)
          have hal : acc.length ≤ 100 := by
            rw [hacc]
            have := rem_len ((tl tf).take i)
            rw [List.length_take] at this
            omega
          have hbs := hB.size
          by_cases h10 : tf[i].toNat = 10
          · have q1 : ((tf[i].toNat : Int) != 10) = false := by simp; omega
            have HA : Hid (acc = remB ((tl tf).take (i + 1))) := Lib.hid (by
              rw [htn, hacc]
              unfold remB
              rw [List.filter_append]
              simp [h10])
            clear htn h10 hacc
            go_wp2_with fail
            exact ⟨⟨i + 1, acc, _, rfl, by omega, by go_num, HA.out, hO, hB⟩, by simp only [intOf]; omega⟩
          · have q1 : ((tf[i].toNat : Int) != 10) = true := by simp; omega
            have HA : Hid (acc ++ [tf[i]] = remB ((tl tf).take (i + 1))) := Lib.hid (by
              rw [htn, hacc]
              unfold remB
              rw [List.filter_append]
              simp [h10])
            obtain ⟨v2, w2, hr, hO2, hB2⟩ := put_one wr w1.heap.size vb acc tf[i] hO hbs (by omega)
            have hB3 := hB.trans hB2
            have HB3 := Lib.hid hB3
            have HO2 := Lib.hid hO2
            clear htn h10 hacc hO2 hB2 hB3 hO
            go_wp2_with (at_builtin; refine wpList_append_run rfl (.tmp 40) (.tmp 44) 35 35 rfl _ _ rfl rfl _ w2 hr ?_; clear hr)
            exact ⟨⟨i + 1, acc ++ [tf[i]], _, rfl, by omega, by go_num, HA.out, HO2.out, HB3.out⟩, by simp only [intOf]; omega⟩
        · have g0 : decide ((i : Int) < (tf.size : Int)) = false := decide_eq_false (by omega)
          have hall : (tl tf).take i = tl tf := List.take_of_length_le (by rw [tl_len]; omega)
          rw [hall] at hacc
          have hbl : acc.length ≤ 100 := by rw [hacc]; exact Nat.le_trans (rem_len _) hfl
          have HBB := Lib.hid hacc
          have hB1w := HB1.out.trans (hB.mono (by have := HB1.out.size; omega))
          have HBW := Lib.hid hB1w
          obtain ⟨ab, kb, rfl⟩ := own_shape hO
          have hbv := own_view hO
          have htb := text_of hO
          obtain ⟨V2, hV2⟩ : ∃ V2, V2 = wr := ⟨_, rfl⟩
          rw [← hV2] at hO hB HBW hbv ⊢
          obtain ⟨S, hS⟩ : ∃ S, S = textOf T := ⟨_, rfl⟩
          have hSl : S.size = T.length := by rw [hS]; rfl
          have hST : tl S = T := by rw [hS]; exact tl_textOf T
          rw [← hS]
          have HS := Lib.hid hS
          have HSL := Lib.hid hSl
          have HST := Lib.hid hST
          have HO := Lib.hid hO
          have HB := Lib.hid hB
          have HV := Lib.hid hbv
          obtain ⟨la, hla⟩ : ∃ la, la = acc.length := ⟨_, rfl⟩
          have HLA := Lib.hid hla
          rw [← hla] at hbl ⊢
          clear hV2 hS hSl hST hO hB hB1w hacc hall hbv htb hla hts hi wr
          go_wp2_with fail
          clear g0
          go_loopw [10, 11] (fun v10 v11 wr => ∃ (k : Nat) (acc2 : List UInt8) (v : Value), v = v10 ∧ k ≤ S.size ∧ k ≤ 100000 ∧ v11 = .int .i64 (k : Nat) ∧ acc2 = spr (gapW acc) ((tl S).take k) ∧ Oc.OwnS wr V2.heap.size v acc2 ∧ Below V2.heap.size V2 wr) (fun _ v11 _ => S.size - (intOf v11).toNat)
          case atStart => exact ⟨0, [], _, rfl, Nat.zero_le _, Nat.zero_le _, rfl, rfl, ⟨rfl, .inl ⟨rfl, rfl⟩⟩, Below.refl _ _⟩
          case round =>
            obtain ⟨k, acc2, vc, rfl, hk, hk2, rfl, hacc2, hO2, hB2⟩ := hrel
            have hal2 : acc2.length ≤ 10400000 := by
              rw [hacc2]
              have h1 := spr_len (w := gapW acc) ((tl S).take k)
              have h2 : ((tl S).take k).length ≤ 100000 := by rw [List.length_take]; omega
              have h3 : (gapW acc).length + 1 ≤ 104 := by
                unfold gapW
                rw [List.length_append, List.length_append, ← HLA.out]
                show 2 + _ + 1 + 1 ≤ _
                omega
              have h4 : ((tl S).take k).length * ((gapW acc).length + 1) ≤ 100000 * 104 := Nat.mul_le_mul h2 h3
              omega
            have hbs := hB2.size
            by_cases hgo : k < S.size ∧ k < 100000
            · obtain ⟨hks, hk3⟩ := hgo
              have g0 : decide ((k : Int) < (S.size : Int)) = true := decide_eq_true (by omega)
              have g1 : decide ((k : Int) < 100000) = true := decide_eq_true (by omega)
              have g2 : decide (k < S.size) = true := decide_eq_true hks
              have htn := take_next (tl_at S k hks)
              by_cases h10 : S[k].toNat = 10
              · have q1 : ((S[k].toNat : Int) == 10) = true := by simp; omega
                have hc10 : S[k] = 10 := by
                  apply UInt8.toNat_inj.1
                  rw [h10]
                  rfl
                have HA : Hid (acc2 ++ [32, 35] ++ acc ++ [S[k]] = spr (gapW acc) ((tl S).take (k + 1))) := Lib.hid (by
                  rw [htn, spr_app, ← hacc2]
                  unfold spr gapW
                  simp [hc10])
                obtain ⟨v3, w3, hr3, hO3, hB3⟩ := Oc.run_own_text wr V2.heap.size vc acc2 ⟨#[32, 35]⟩ hO2 hbs (by show acc2.length + 2 ≤ _; omega)
                have hb23 := hB2.trans hB3
                have hbw := (HO.out.below (B := V2.heap.size) hb23 (Nat.le_refl _))
                have hv3 := own_view hbw
                obtain ⟨v4, w4, hr4, hO4, hB4⟩ := Oc.run_own_bytes w3 V2.heap.size v3 _ acc ab kb hO3 hv3.1 hv3.2 hb23.size (by
                  rw [List.length_append, ← HLA.out]
                  show acc2.length + 2 + _ ≤ _
                  omega)
                have hb24 := hb23.trans hB4
                obtain ⟨v5, w5, hr5, hO5, hB5⟩ := put_one w4 V2.heap.size v4 _ S[k] hO4 hb24.size (by
                  rw [List.length_append, List.length_append, ← HLA.out]
                  show acc2.length + 2 + _ + 1 ≤ _
                  omega)
                have HB5 := Lib.hid (hb24.trans hB5)
                have HO5 := Lib.hid hO5
                rw [← HLA.out] at hr4
                clear htn h10 hc10 hacc2 hO3 hB3 hb23 hbw hv3 hO4 hB4 hb24 hO5 hB5 hO2
                go_wp2_with (first
                  | (at_builtin; refine wpList_append_run rfl (.tmp 60) (.const (.string ⟨#[32, 35]⟩)) 35 9 rfl _ _ rfl rfl _ w3 hr3 ?_; clear hr3)
                  | (at_builtin; refine wpList_append_run rfl (.tmp 62) (.tmp 63) 35 35 rfl _ _ rfl rfl _ w4 hr4 ?_; clear hr4)
                  | (at_builtin; refine wpList_append_run rfl (.tmp 65) (.tmp 69) 35 35 rfl _ _ rfl rfl _ w5 hr5 ?_; clear hr5))
                exact ⟨⟨k + 1, _, _, rfl, by omega, by omega, by go_num, HA.out, HO5.out, HB5.out⟩, by simp only [intOf]; omega⟩
              · have q1 : ((S[k].toNat : Int) == 10) = false := by simp; omega
                have HA : Hid (acc2 ++ [S[k]] = spr (gapW acc) ((tl S).take (k + 1))) := Lib.hid (by
                  rw [htn, spr_app, ← hacc2]
                  unfold spr
                  simp [h10])
                obtain ⟨v5, w5, hr5, hO5, hB5⟩ := put_one wr V2.heap.size vc acc2 S[k] hO2 hbs (by omega)
                have HB5 := Lib.hid (hB2.trans hB5)
                have HO5 := Lib.hid hO5
                clear htn h10 hacc2 hO5 hB5 hO2
                go_wp2_with (at_builtin; refine wpList_append_run rfl (.tmp 65) (.tmp 69) 35 35 rfl _ _ rfl rfl _ w5 hr5 ?_; clear hr5)
                exact ⟨⟨k + 1, _, _, rfl, by omega, by omega, by go_num, HA.out, HO5.out, HB5.out⟩, by simp only [intOf]; omega⟩
            · have HGO := Lib.hid hgo
              clear hgo
              by_cases hlo : 100000 < S.size
              · have g5 : decide ((100000 : Int) < (S.size : Int)) = true := decide_eq_true (by omega)
                have g6 : decide (100000 < S.size) = true := decide_eq_true hlo
                obtain ⟨ac, kc, rfl⟩ := own_shape hO2
                by_cases hks : k < S.size
                · have g0 : decide ((k : Int) < (S.size : Int)) = true := decide_eq_true (by omega)
                  have g2 : decide (k < S.size) = true := decide_eq_true hks
                  have g1 : decide ((k : Int) < 100000) = false := decide_eq_false (by have := HGO.out; omega)
                  have g3 : decide (k < 100000) = false := decide_eq_false (by have := HGO.out; omega)
                  clear hacc2 hks hlo
                  go_wp2_with fail
                  refine (known_any _).mono ?_
                  rintro e w7 ⟨rfl, hb7⟩
                  go_wp2_with fail
                  go_ret
                  have hf := HBW.out.trans (hB2.mono (by have := HBW.out.size; omega))
                  exact ⟨rfl, hf.trans (hb7.mono hf.size)⟩
                · have g0 : decide ((k : Int) < (S.size : Int)) = false := decide_eq_false (by omega)
                  have g2 : decide (k < S.size) = false := decide_eq_false hks
                  clear hacc2 hks hlo
                  go_wp2_with fail
                  refine (known_any _).mono ?_
                  rintro e w7 ⟨rfl, hb7⟩
                  go_wp2_with fail
                  go_ret
                  have hf := HBW.out.trans (hB2.mono (by have := HBW.out.size; omega))
                  exact ⟨rfl, hf.trans (hb7.mono hf.size)⟩
              · have hks : k = S.size := by have := HGO.out; omega
                have g0 : decide ((k : Int) < (S.size : Int)) = false := decide_eq_false (by omega)
                have g2 : decide (k < S.size) = false := decide_eq_false (by omega)
                have g5 : decide ((100000 : Int) < (S.size : Int)) = false := decide_eq_false (by omega)
                have g6 : decide (100000 < S.size) = false := decide_eq_false hlo
                have hpk := parse_spaced (A := A) (B := B) (C := C) (ws := ws) (ms := ms) (t := tl tf) (by rw [← HNM.out]; exact hm) HT.out.2 hfl (by rw [HT.out.1, ← HSL.out]; omega)
                rw [HT.out.1, ← HBB.out] at hpk
                rw [List.take_of_length_le (by rw [tl_len]; omega), HST.out] at hacc2
                rw [← hacc2] at hpk
                obtain ⟨hp1, hp2⟩ := hpk
                have g7 : decide ((4194304 : Int) < (acc2.length : Nat)) = false := decide_eq_false (by omega)
                have g8 : decide (4194304 < acc2.length) = false := decide_eq_false (by omega)
                have htc := text_of hO2
                have htb := text_of (HO.out.below (B := V2.heap.size) hB2 (Nat.le_refl _))
                obtain ⟨ac, kc, rfl⟩ := own_shape hO2
                have HX := Lib.hid (show (⟨#[9, 13, 10, 35, 32]⟩ : ByteArray) ++ textOf acc ++ ⟨#[10]⟩ ++ textOf acc2 ++ ⟨#[35]⟩ = textOf (headW acc ++ (acc2 ++ [35])) by
                  rw [show (⟨#[9, 13, 10, 35, 32]⟩ : ByteArray) = textOf [9, 13, 10, 35, 32] from rfl, show (⟨#[10]⟩ : ByteArray) = textOf [10] from rfl, show (⟨#[35]⟩ : ByteArray) = textOf [35] from rfl, text_add, text_add, text_add, text_add]
                  unfold headW
                  simp)
                have HPA := fun wx => parse_any (textOf (headW acc ++ (acc2 ++ [35]))) (fun _ => (0, 0)) wx (by
                  show (headW acc ++ (acc2 ++ [35])).length ≤ _
                  rw [List.length_append, List.length_append]
                  unfold headW
                  rw [List.length_append, List.length_append, ← HLA.out]
                  show 5 + _ + 1 + (_ + 1) ≤ _
                  omega) (fun y hy => by rw [tl_textOf, hp2] at hy; cases hy)
                rw [tl_textOf, hp2] at HPA
                rw [← HLA.out] at htb
                have HPA := Lib.hid HPA
                have HB2 := Lib.hid hB2
                have hla1 : (textOf acc).size = la := HLA.out.symm
                have hla2 : (textOf acc2).size = acc2.length := rfl
                obtain ⟨sb, hsb⟩ : ∃ sb, sb = textOf acc := ⟨_, rfl⟩
                obtain ⟨sc, hsc⟩ : ∃ sc, sc = textOf acc2 := ⟨_, rfl⟩
                rw [← hsb] at HX htb hla1
                rw [← hsc] at HX htc hla2
                obtain ⟨lc, hlc⟩ : ∃ lc, lc = acc2.length := ⟨_, rfl⟩
                rw [← hlc] at g7 g8 htc hla2 hp1 ⊢
                have hsb8 : sb.size ≤ 100 := by omega
                have hsc8 : sc.size ≤ 200000 := by omega
                clear hacc2 hks hlo hp2 hsb hsc hlc hla1 hla2 hal2 hbs hk hk2 hO2 hB2
                go_wp2_with fail
                rw [HX.out]
                refine (HPA.out wr).mono ?_
                rintro e w2 ⟨hb2, vW, vM, vA, vB, vC, rfl, hO⟩
                obtain ⟨xW, cW, rfl⟩ := hO.oW.slice
                obtain ⟨xM, cM, rfl⟩ := hO.oM.slice
                obtain ⟨xA, cA, rfl⟩ := hO.oA.slice
                obtain ⟨xB, cB, rfl⟩ := hO.oB.slice
                obtain ⟨xC, cC, rfl⟩ := hO.oC.slice
                have pW := hO.oW.wsp
                have pM := hO.oM.msp
                have pA := hO.oA.sps
                have pB := hO.oB.sps
                have pC := hO.oC.sps
                simp only at pW pM pA pB pC
                rw [texts_back] at pW
                simp only [List.length_map]
                rw [← HNW.out, ← HNM.out, ← HNA.out, ← HNB.out, ← HNC.out]
                have bx1 := box_below w2 (.cells #[.slice xW nw cW, .slice xM nm cM, .slice xA na cA, .slice xB nb cB, .slice xC nc cC] 26)
                have hx1 := heap_alloc_new w2 (.cells #[.slice xW nw cW, .slice xM nm cM, .slice xA na cA, .slice xB nb cB, .slice xC nc cC] 26)
                obtain ⟨w3, hw3⟩ : ∃ w3, w3 = w2.alloc (.cells #[.slice xW nw cW, .slice xM nm cM, .slice xA na cA, .slice xB nb cB, .slice xC nc cC] 26) := ⟨_, rfl⟩
                have hs3 : w3.heap.size = w2.heap.size + 1 := by rw [hw3]; simp
                rw [← hw3] at bx1 hx1
                have bx2 := box_below w3 (.cells #[.int .i64 0, .int .i64 0, .int .i64 0] 37)
                obtain ⟨w4, hw4⟩ : ∃ w4, w4 = w3.alloc (.cells #[.int .i64 0, .int .i64 0, .int .i64 0] 37) := ⟨_, rfl⟩
                rw [← hw4] at bx2
                have hx2 := (bx2.block w2.heap.size (by omega)).trans hx1
                have hb4 := (hb2.trans (bx1.mono hb2.size)).trans (bx2.mono (by have := hb2.size; omega))
                have hPd : PrD w4 xW xM xA xB xC ws ms A B C := (PrD.mk pW pM pA pB pC).below (bx1.trans (bx2.mono (by omega)))
                have hV2 := HB.out
                have hs12 := hV2.size
                have hwr := hV2.trans (HB2.out.mono hs12)
                have h14 := hwr.trans (hb4.mono (by have := HB2.out.size; omega))
                have hDY4 := HDY1.out.below h14
                have hD4 := HD1.out.below h14 HD1.out.lt
                have HB4 := Lib.hid (HB1.out.trans (h14.mono HB1.out.size))
                have HW3 := Lib.hid hw3
                have HW4 := Lib.hid hw4
                obtain ⟨y, hy⟩ : ∃ y, y = w2.heap.size := ⟨_, rfl⟩
                rw [← hy] at hx2
                have HYZ := Lib.hid hy
                have y0 := cell_of_block hx2 0
                have y1 := cell_of_block hx2 1
                have y2 := cell_of_block hx2 2
                have y3 := cell_of_block hx2 3
                have y4 := cell_of_block hx2 4
                have x0 := hD4.c0
                have x1 := hD4.c1
                have x2 := hD4.c2
                have x3 := hD4.c3
                have x4 := hD4.c4
                have hZ := HSZ.out
                have hKS := keepSame_any xW xM xA xB xC aw am a b c cW cM cA cB cC cw cm ca cb cc ws ms A B C w4 ⟨by have := hZ.w; omega, by have := hZ.m; omega, by have := hZ.a; omega, by have := hZ.b; omega, by have := hZ.c; omega⟩ hPd.hW hPd.hM hPd.hA hPd.hB hPd.hC hDY4.hW hDY4.hM hDY4.hA hDY4.hB hDY4.hC
                rw [← HNW.out, ← HNM.out, ← HNA.out, ← HNB.out, ← HNC.out] at hKS
                clear hO pW pM pA pB pC bx1 bx2 hx1 hs3 hb2 hb4 hPd hw3 hw4 hy hx2 hV2 hs12 hwr h14 hDY4 hD4 hZ htb htc g5 g6 g7 g8 g0 g2
                go_upto_region 24 with fail
                rw [← HW3.out, ← HW4.out, ← HYZ.out]
                clear HW3 HW4
                go_wp2_with fail
                refine hKS.mono ?_
                rintro e w6 ⟨rfl, hb6⟩
                have HB6 := Lib.hid (HB4.out.trans (hb6.mono HB4.out.size))
                clear hKS hb6 y0 y1 y2 y3 y4 x0 x1 x2 x3 x4
                go_wp2_with fail
                refine (known_any w6).mono ?_
                rintro e w7 ⟨rfl, hb7⟩
                go_wp2_with fail
                go_ret
                exact ⟨rfl, HB6.out.trans (hb7.mono HB6.out.size)⟩
    · have HB1 := Lib.hid hB1
      clear hB1 hb1
      go_wp2_with fail
      refine (known_any _).mono ?_
      rintro e w7 ⟨rfl, hb7⟩
      go_wp2_with fail
      go_ret
      exact ⟨rfl, HB1.out.trans (hb7.mono HB1.out.size)⟩
    · have HB1 := Lib.hid hB1
      clear hB1 hb1
      go_wp2_with fail
      refine (known_any _).mono ?_
      rintro e w7 ⟨rfl, hb7⟩
      go_wp2_with fail
      go_ret
      exact ⟨rfl, HB1.out.trans (hb7.mono HB1.out.size)⟩
  · have d0 : decide ((100 : Int) < (nm : Nat)) = true := decide_eq_true (by omega)
    have d1 : decide (100 < nm) = true := decide_eq_true (by omega)
    have x1 := hX.c1
    rw [← hnm] at x1 HY ⊢
    clear hX hDY hPY hnw hnm hna hnb hnc hW hM hA hB hC hbig hm
    go_enter Tryd.func5, Tryd.ntmps5
    go_upto_region 1 with fail
    rw [← HY.out, ← HZ.out]
    clear HY
    go_wp2_with fail
    refine (known_any _).mono ?_
    rintro e w7 ⟨rfl, hb7⟩
    go_wp2_with fail
    go_ret
    exact ⟨rfl, HB0.out.trans (hb7.mono HB0.out.size)⟩
end Go.Proofs.YtonbfcpbgkpbaaaDoor
end
