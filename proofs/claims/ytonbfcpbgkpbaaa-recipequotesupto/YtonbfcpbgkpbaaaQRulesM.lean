/- recipe's parser.rules: what it keeps between two rules. -/
import Derived.Test.YtonbfcpbgkpbaaaQMerge
namespace Go.Proofs.Ytonbfcpbgkpbaaa
open Go.RowKit Go.Sort Go.Joins
set_option linter.unusedVariables false
set_option linter.unusedSimpArgs false
set_option maxRecDepth 100000
theorem strm_length : ∀ (f : Nat) (l : List UInt8) (p : Nat), (strm f l p).length ≤ l.length + 1 := by
  intro f
  induction f with
  | zero => intro l p; simp [strm]
  | succ f ih =>
    intro l p
    unfold strm
    simp only [List.length_cons]
    split
    · rename_i h5
      have hp := tokL_pos _ h5
      have hd : (l.drop (skipN false l)) ≠ [] := hp.2
      have h0 : 0 < l.length := by
        rcases Nat.eq_zero_or_pos l.length with h0 | h0
        · rw [List.length_eq_zero_iff.1 h0] at hd
          simp at hd
        · exact h0
      have := ih (l.drop (skipN false l + (tokL (l.drop (skipN false l))).2.1)) (p + skipN false l + (tokL (l.drop (skipN false l))).2.1)
      rw [List.length_drop] at this
      omega
    · simp
theorem rest_length (l : List UInt8) (p : Nat) : (rest l p).length ≤ l.length + 1 := by
  have := strm_length (l.length + 1) (l.drop p) p
  rw [List.length_drop] at this
  unfold rest
  omega
theorem spanF_length : ∀ (f : Nat) (st : PS), (spanF f st).1.length + (spanF f st).2.2.length ≤ st.2.length := by
  intro f
  induction f with
  | zero => intro st; simp [spanF]
  | succ f ih =>
    intro st
    cases hm : meetP (mEmpty 3) st with
    | false => rw [spanF_no hm]; simp
    | true =>
      rw [spanF_yes hm]
      have h1 := ih (spanP st).2
      have h2 := spanP_less hm
      simp only [List.length_cons]
      omega
theorem spansP_length (st : PS) : (spansP st).1.length + (spansP st).2.2.length ≤ st.2.length := by
  unfold spansP
  simp only
  have h1 := spanF_length (takeP (sgn sOpen) st).2.2.length (takeP (sgn sOpen) st).2
  have h2 := take_length (sgn sOpen) st
  have h3 := take_length (sgn sShut) (spanF (takeP (sgn sOpen) st).2.2.length (takeP (sgn sOpen) st).2).2
  omega
theorem mergeP_length (st : PS) : (mergeP st).2.2.length ≤ st.2.length := by
  unfold mergeP
  simp only
  have h1 := take_length (mEmpty 4) st
  have h2 := take_length (sgn sPlus) (takeP (mEmpty 4) st).2
  have h3 := take_length (mEmpty 4) (takeP (sgn sPlus) (takeP (mEmpty 4) st).2).2
  have h4 := take_length (sgn sEq) (takeP (mEmpty 4) (takeP (sgn sPlus) (takeP (mEmpty 4) st).2).2).2
  have h5 := take_length (mEmpty 2) (takeP (sgn sEq) (takeP (mEmpty 4) (takeP (sgn sPlus) (takeP (mEmpty 4) st).2).2).2).2
  omega
def Apart (u v : Value) : Prop := ∀ i, u.ownBlock = some i → v.ownBlock ≠ some i
theorem Apart.symm {u v : Value} (h : Apart u v) : Apart v u := fun i hi hu => h i hu hi
/-- What a parser's lists are. -/
structure DO (w : World) (base : Nat) (d : DV) (r : RD) : Prop where
  oM : OwnG 105 9 encW w base d.M r.M
  oA : OwnG 61 2 encS w base d.A r.A
  oB : OwnG 61 2 encS w base d.B r.B
  oC : OwnG 61 2 encS w base d.C r.C
  dAB : Apart d.A d.B
  dAC : Apart d.A d.C
  dBC : Apart d.B d.C
  w0 : d.W0 = .slice none 0 0
  m0 : d.M0 = .slice none 0 0
theorem OwnG.types {α β : Type} {T S : TypeId} {k j : Nat} {enc : α → List Value} {enc' : β → List Value} {w : World} {base base' : Nat} {u v : Value} {l : List α} {l' : List β} (h : OwnG T k enc w base u l) (h' : OwnG S j enc' w base' v l') (hne : T ≠ S) : Apart u v := fun i hi hv => by
  obtain ⟨-, -, c, hc⟩ := h.block hi
  obtain ⟨-, -, c', hc'⟩ := h'.block hv
  rw [hc] at hc'
  injection hc' with hc'
  injection hc' with _ ht
  exact hne ht
theorem DO.but {w w' : World} {base g B : Nat} {d : DV} {r : RD} (h : DO w base d r) (hb : But g B w w') (hB : w.heap.size ≤ B) (hg : g < base) : DO w' base d r :=
  ⟨h.oM.but hb hB hg, h.oA.but hb hB hg, h.oB.but hb hB hg, h.oC.but hb hB hg, h.dAB, h.dAC, h.dBC, h.w0, h.m0⟩
theorem OwnG.keep {α : Type} {T : TypeId} {k : Nat} {enc : α → List Value} {w w' : World} {base g : Nat} {u v : Value} {l : List α} (h : OwnG T k enc w base v l) (hb : Bu g u.ownBlock w.heap.size w w') (hg : g < base) (ha : Apart u v) : OwnG T k enc w' base v l :=
  h.bu hb (Nat.le_refl _) hg (fun i hi e => ha i e.symm hi)
theorem Apart.moved {α : Type} {T : TypeId} {k : Nat} {enc : α → List Value} {w : World} {base B : Nat} {u u' v : Value} {l : List α} (h : Apart u v) (hm : Moved u u' B) (ho : OwnG T k enc w base v l) (hB : w.heap.size ≤ B) : Apart u' v := fun i hi hv => by
  rcases hm i hi with h1 | h1
  · exact h i h1 hv
  · have := (ho.block hv).2.1
    omega
def RD.get (r : RD) (o : Nat) : List Sp := if o = 8 then r.A else if o = 9 then r.B else r.C
def RD.add (r : RD) (o : Nat) (l : List Sp) : RD := if o = 8 then { r with A := r.A ++ l } else if o = 9 then { r with B := r.B ++ l } else { r with C := r.C ++ l }
theorem span_ne : 61 ≠ 105 := by decide
theorem DO.own {w : World} {base : Nat} {d : DV} {r : RD} (h : DO w base d r) {o : Nat} (ho : o = 8 ∨ o = 9 ∨ o = 10) : OwnG 61 2 encS w base (d.get o) (r.get o) := by
  rcases ho with rfl | rfl | rfl
  · exact h.oA
  · exact h.oB
  · exact h.oC
theorem DO.span {w w' : World} {base g : Nat} {d : DV} {r : RD} (h : DO w base d r) {o : Nat} (ho : o = 8 ∨ o = 9 ∨ o = 10) {v : Value} {l : List Sp} (hv : OwnG 61 2 encS w' base v (r.get o ++ l)) (hb : Bu g (d.get o).ownBlock w.heap.size w w') (hm : Moved (d.get o) v w.heap.size) (hg : g < base) : DO w' base (d.set o v) (r.add o l) := by
  rcases ho with rfl | rfl | rfl
  · have hb : Bu g d.A.ownBlock w.heap.size w w' := hb
    have hm : Moved d.A v w.heap.size := hm
    exact ⟨h.oM.keep hb hg (h.oA.types h.oM span_ne), hv, h.oB.keep hb hg h.dAB, h.oC.keep hb hg h.dAC, h.dAB.moved hm h.oB (Nat.le_refl _), h.dAC.moved hm h.oC (Nat.le_refl _), h.dBC, h.w0, h.m0⟩
  · have hb : Bu g d.B.ownBlock w.heap.size w w' := hb
    have hm : Moved d.B v w.heap.size := hm
    exact ⟨h.oM.keep hb hg (h.oB.types h.oM span_ne), h.oA.keep hb hg h.dAB.symm, hv, h.oC.keep hb hg h.dBC, (h.dAB.symm.moved hm h.oA (Nat.le_refl _)).symm, h.dAC, h.dBC.moved hm h.oC (Nat.le_refl _), h.w0, h.m0⟩
  · have hb : Bu g d.C.ownBlock w.heap.size w w' := hb
    have hm : Moved d.C v w.heap.size := hm
    exact ⟨h.oM.keep hb hg (h.oC.types h.oM span_ne), h.oA.keep hb hg h.dAC.symm, h.oB.keep hb hg h.dBC.symm, hv, h.dAB, (h.dAC.symm.moved hm h.oA (Nat.le_refl _)).symm, (h.dBC.symm.moved hm h.oB (Nat.le_refl _)).symm, h.w0, h.m0⟩
theorem DO.merge {w w' : World} {base g : Nat} {d : DV} {r : RD} (h : DO w base d r) {v : Value} {x : Wr} (hv : OwnG 105 9 encW w' base v (r.M ++ [x])) (hb : Bu g d.M.ownBlock w.heap.size w w') (hg : g < base) : DO w' base { d with M := v } { r with M := r.M ++ [x] } :=
  ⟨hv, h.oA.keep hb hg (h.oA.types h.oM span_ne).symm, h.oB.keep hb hg (h.oB.types h.oM span_ne).symm, h.oC.keep hb hg (h.oC.types h.oM span_ne).symm, h.dAB, h.dAC, h.dBC, h.w0, h.m0⟩
/-- How long a parser's lists are. -/
def RD.le (r : RD) (n : Nat) : Prop := r.M.length ≤ n ∧ r.A.length ≤ n ∧ r.B.length ≤ n ∧ r.C.length ≤ n
theorem rulesF_bad (f : Nat) (ts : List Tok) (d : RD) : rulesF f (true, ts) d = (d, (true, ts)) := by
  cases f with
  | zero => rfl
  | succ f => rw [rulesF, if_neg (by simp)]
theorem rulesF_end (f : Nat) (st : PS) (d : RD) (h : headK st = 8) : rulesF f st d = (d, st) := by
  cases f with
  | zero => rfl
  | succ f => rw [rulesF, if_neg (by simp [h])]
theorem rulesF_next (f : Nat) (st : PS) (d : RD) (h : st.1 = false) (h8 : headK st ≠ 8) : rulesF (f + 1) st d = rulesF f (ruleP st d).2 (ruleP st d).1 := by
  rw [rulesF, if_pos ⟨h, h8⟩]
/-- What stands between two rules. -/
def RuI (w : World) (g base : Nat) (src : ByteArray) (st0 : PS) (f0 N f : Nat) (wr : World) : Prop :=
  ∃ (st : PS) (r : RD) (d : DV), PX wr g src st d ∧ DO wr base d r ∧ But g w.heap.size w wr ∧ Toks st ∧ (st.1 = false → st.2.length ≤ f) ∧ r.le (N - st.2.length) ∧ st.2.length ≤ N ∧ rulesF f0 st0 ⟨[], [], [], []⟩ = rulesF f st r
end Go.Proofs.Ytonbfcpbgkpbaaa
