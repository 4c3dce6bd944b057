/- recipe's parser.spans: its contract. -/
import Derived.Test.YtonbfcpbgkpbaaaQRune
import Derived.Deep.LoopGhost
import Derived.Deep.DeepCutAuto
namespace Go.Proofs.Ytonbfcpbgkpbaaa
open Go.RowKit Go.Sort Go.Joins
set_option linter.unusedVariables false
set_option linter.unusedSimpArgs false
set_option maxRecDepth 100000
theorem text_list (l : List UInt8) : (textOf l).toList = l := by rw [Lib.toList_data]; rfl
theorem mW_nil (k : Nat) : mW k [] = mEmpty k := by
  funext t
  unfold mW mEmpty
  simp
theorem containsB_eq (ws : List ByteArray) (s : List UInt8) : containsB ws (textOf s) = (ws.map tl).contains s := by
  unfold containsB
  rw [text_list]
  induction ws with
  | nil => rfl
  | cons x ws ih =>
    rw [List.any_cons, ih, List.map_cons, List.contains_cons, Lib.toList_data]
theorem mW_of (k : Nat) (ws : List ByteArray) (h : ws ≠ []) : mW k ws = mOf k (ws.map tl) := by
  funext t
  unfold mW mOf
  rw [containsB_eq]
  cases ws with
  | nil => exact absurd rfl h
  | cons x ws => rfl
theorem mW_sgn (l : List UInt8) : mW 5 [textOf l] = sgn l := by
  rw [mW_of 5 _ (by simp)]
  rfl
def DV.get (d : DV) (o : Nat) : Value := if o = 8 then d.A else if o = 9 then d.B else d.C
def DV.set (d : DV) (o : Nat) (v : Value) : DV := if o = 8 then { d with A := v } else if o = 9 then { d with B := v } else { d with C := v }
theorem DV.get_set (d : DV) (o : Nat) (v : Value) : (d.set o v).get o = v := by
  unfold DV.get DV.set
  by_cases h8 : o = 8
  · rw [if_pos h8, if_pos h8]
  · by_cases h9 : o = 9
    · rw [if_neg h8, if_neg h8, if_pos h9, if_pos h9]
    · rw [if_neg h8, if_neg h8, if_neg h9, if_neg h9]
theorem DV.set_set (d : DV) (o : Nat) (v u : Value) : (d.set o v).set o u = d.set o u := by
  unfold DV.set
  by_cases h8 : o = 8
  · simp only [if_pos h8]
  · by_cases h9 : o = 9
    · simp only [if_neg h8, if_pos h9]
    · simp only [if_neg h8, if_neg h9]
theorem DV.set_get (d : DV) (o : Nat) : d.set o (d.get o) = d := by
  unfold DV.set DV.get
  by_cases h8 : o = 8
  · simp only [if_pos h8]
  · by_cases h9 : o = 9
    · simp only [if_neg h8, if_pos h9]
    · simp only [if_neg h8, if_neg h9]
theorem PX.cell {w : World} {g : Nat} {src : ByteArray} {st : PS} {d : DV} (h : PX w g src st d) {o : Nat} (ho : o = 8 ∨ o = 9 ∨ o = 10) : w.cell? ⟨g, o, none⟩ = some (d.get o) ∧ w.frozen? ⟨g, o, none⟩ = false := by
  obtain ⟨z, hP, hr, rfl⟩ := h
  rcases ho with rfl | rfl | rfl
  · exact ⟨hP.c8, hP.free _⟩
  · exact ⟨hP.c9, hP.free _⟩
  · exact ⟨hP.c10, hP.free _⟩
theorem PX.put {w : World} {g : Nat} {src : ByteArray} {st : PS} {d : DV} (h : PX w g src st d) {o : Nat} (ho : o = 8 ∨ o = 9 ∨ o = 10) (v : Value) : PX (w.setCell ⟨g, o, none⟩ v) g src st (d.set o v) := by
  obtain ⟨z, hP, hr, rfl⟩ := h
  rcases ho with rfl | rfl | rfl
  · exact ⟨_, hP.setA v, hr, rfl⟩
  · exact ⟨_, hP.setB v, hr, rfl⟩
  · exact ⟨_, hP.setC v, hr, rfl⟩
theorem PX.bu {w w' : World} {g : Nat} {src : ByteArray} {st : PS} {d : DV} (h : PX w g src st d) (hb : w'.heap[g]? = w.heap[g]?) : PX w' g src st d := by
  obtain ⟨z, hP, hr⟩ := h
  exact ⟨z, hb.trans hP, hr⟩
def encS (x : Sp) : List Value := [.int .i32 x.lo, .int .i32 x.hi]
theorem encS_one (x : Sp) : ∀ v ∈ encS x, v.oneCell' = true := by
  intro v hv
  simp [encS] at hv
  rcases hv with rfl | rfl <;> rfl
theorem infoSp : (Try.prog.info? 61).map (fun i => (i.zero, i.size, i.bytes)) = some (some (.agg #[.int .i32 0, .int .i32 0]), 2, 8) := by kernel_rfl
/-- A text of signs, as it is handed on. -/
theorem texts_new (w : World) (ws : List ByteArray) : WSP (w.alloc (.cells (ws.map Value.string).toArray 9)) (some ⟨w.heap.size, 0, none⟩) ws := WSP.new w ws _
theorem take_length (m : Tok → Bool) (st : PS) : (takeP m st).2.2.length ≤ st.2.length := by
  obtain ⟨bad, ts⟩ := st
  cases ts with
  | nil => cases bad <;> exact Nat.le_refl _
  | cons t ts =>
    cases bad with
    | true => exact Nat.le_refl _
    | false =>
      show (if m t = true then (t, (false, ts)) else (zeroT, (true, t :: ts))).2.2.length ≤ _
      by_cases hm : m t = true
      · rw [if_pos hm]; exact Nat.le_succ _
      · rw [if_neg hm]; exact Nat.le_refl _
theorem take_less {m : Tok → Bool} {st : PS} (h : meetP m st = true) : (takeP m st).2.2.length < st.2.length := by
  obtain ⟨bad, ts⟩ := st
  cases ts with
  | nil => cases bad <;> cases h
  | cons t ts =>
    cases bad with
    | true => cases h
    | false =>
      have h : m t = true := h
      show (if m t = true then (t, (false, ts)) else (zeroT, (true, t :: ts))).2.2.length < _
      rw [if_pos h]
      exact Nat.lt_succ_self _
theorem spanP_less {st : PS} (h : meetP (mEmpty 3) st = true) : (spanP st).2.2.length < st.2.length := by
  have h1 := take_less h
  unfold spanP
  simp only
  split
  · have h2 := take_length (sgn sTo) (takeP (mEmpty 3) st).2
    have h3 := take_length (mEmpty 3) (takeP (sgn sTo) (takeP (mEmpty 3) st).2).2
    simp only
    omega
  · exact h1
theorem Toks.span {st : PS} (h : Toks st) : Toks (spanP st).2 := by
  have h1 := (h.take (mEmpty 3)).1
  unfold spanP
  simp only
  split
  · exact ((h1.take (sgn sTo)).1.take (mEmpty 3)).1
  · exact h1
theorem spanF_no {f : Nat} {st : PS} (h : meetP (mEmpty 3) st = false) : spanF f st = ([], st) := by
  cases f with
  | zero => rfl
  | succ f => rw [spanF, if_neg (by rw [h]; decide)]
theorem spanF_yes {f : Nat} {st : PS} (h : meetP (mEmpty 3) st = true) : spanF (f + 1) st = ((spanP st).1 :: (spanF f (spanP st).2).1, (spanF f (spanP st).2).2) := by
  rw [spanF, if_pos h]
/-- What stands between two rounds of spans. -/
def SpI (w : World) (g base o : Nat) (src : ByteArray) (d : DV) (l0 : List Sp) (st0 : PS) (f0 f : Nat) (wr : World) : Prop :=
  ∃ (acc : List Sp) (st : PS) (v : Value), PX wr g src st (d.set o v) ∧ OwnG 61 2 encS wr base v (l0 ++ acc) ∧ Bu g (d.get o).ownBlock w.heap.size w wr ∧ Moved (d.get o) v w.heap.size ∧ Toks st ∧ st.2.length ≤ f ∧ acc.length + st.2.length ≤ f0 ∧ spanF f0 st0 = (acc ++ (spanF f st).1, (spanF f st).2)
end Go.Proofs.Ytonbfcpbgkpbaaa
