/- recipe's meaning: what it holds in memory. -/
import Derived.Test.YtonbfcpbgkpbaaaQFirst
import Derived.Laws.MakeOwn
namespace Go.Proofs.Ytonbfcpbgkpbaaa
open Go.RowKit Go.Sort Go.Joins
set_option linter.unusedVariables false
set_option maxRecDepth 100000
def encS1 (s : List UInt8) : List Value := [.string (textOf s)]
def encG (x : Mg) : List Value := [.int .i64 x.l, .int .i64 x.r, .int .i64 x.i]
theorem encG_one (x : Mg) : ∀ v ∈ encG x, v.oneCell' = true := by
  intro v hv
  simp [encG] at hv
  rcases hv with rfl | rfl | rfl <;> rfl
theorem infoMg : (Try.prog.info? 59).map (fun i => (i.zero, i.size, i.bytes)) = some (some (.agg #[.int .i64 0, .int .i64 0, .int .i64 0]), 3, 24) := by kernel_rfl
theorem infoStr : (Try.prog.info? 9).map (fun i => (i.zero, i.size, i.bytes)) = some (some (.string ⟨#[]⟩), 1, 16) := by kernel_rfl
/-- The words lie at block b. -/
def WB (w : World) (b : Nat) (l : List (List UInt8)) : Prop := w.heap[b]? = some (.cells (l.map fun s => Value.string (textOf s)).toArray 9 (0, 0))
theorem WB.at_ {w : World} {b : Nat} {l : List (List UInt8)} (h : WB w b l) {i : Nat} (hi : i < l.length) : w.cell? ⟨b, i, none⟩ = some (.string (textOf (l.getD i []))) := by
  refine (cell_of_block h i).trans ?_
  simp [List.getD, List.getElem?_eq_getElem hi]
theorem WB.set {w : World} {b : Nat} {l : List (List UInt8)} (h : WB w b l) (i : Nat) (s : List UInt8) : WB (w.setCell ⟨b, i, none⟩ (.string (textOf s))) b (l.set i s) := by
  have := block_setCell h (i := i) (.string (textOf s))
  unfold WB
  rw [this]
  congr 2
  apply Array.ext'
  simp [List.map_set]
theorem flat_one (l : List (List UInt8)) : l.flatMap encS1 = l.map fun s => Value.string (textOf s) := by
  induction l with
  | nil => rfl
  | cons s l ih => rw [List.flatMap_cons, List.map_cons, ih]; rfl
theorem WB.own {w : World} {b : Nat} {l : List (List UInt8)} (h : WB w b l) (base : Nat) (hb : base ≤ b) (hl : l.length ≤ 4611686018427387904) : OwnG 9 1 encS1 w base (.slice (some ⟨b, 0, none⟩) l.length l.length) l :=
  ⟨by rw [flat_one]; simp, .inr ⟨b, l.length, _, rfl, hb, h, Nat.le_refl _, by unfold maxLen; omega, by simp, by rw [flat_one]; simp [List.take_of_length_le]⟩⟩
theorem run_makeT (u : World) (n : Nat) (hn : n ≤ 4294967296) : (Instr.makeSlice 23 (.int .i64 (n : Nat)) (.int .i64 (n : Nat))).run Try.prog u = .ok (.slice (some ⟨u.heap.size, 0, none⟩) n n) (u.alloc (.cells ((List.replicate n ([] : List UInt8)).map fun s => Value.string (textOf s)).toArray 9)) := by
  obtain ⟨i0, hi, hz0, hz1, hz2⟩ := info_parts infoStr
  have h := run_make (P := Try.prog) u 23 9 i0 _ Try.underlying23 hi hz0 .i64 .i64 (n : Int) (n : Int) (by omega) (Int.le_refl _) (by rw [hz2]; omega) (by omega)
  rw [hz1] at h
  have e : ((n : Int)).toNat = n := by omega
  rw [e] at h
  have e2 : ((List.replicate n ([] : List UInt8)).map fun s => Value.string (textOf s)).toArray = madeCells (Value.string ⟨#[]⟩).cells (n * 1) := by
    apply Array.ext
    · simp [madeCells]
    · intro i h1 h2
      simp [madeCells, Value.cells, Nat.mod_one, textOf]
  rw [e2]
  exact h
theorem flat_at {α : Type} {k : Nat} {enc : α → List Value} (hk : ∀ x, (enc x).length = k) : ∀ (l : List α) (i : Nat) (x : α), l[i]? = some x → ∀ j, j < k → (l.flatMap enc)[i * k + j]? = (enc x)[j]?
  | [], i, x, h, j, hj => by simp at h
  | y :: l, 0, x, h, j, hj => by
    simp at h
    subst h
    rw [List.flatMap_cons, Nat.zero_mul, Nat.zero_add, List.getElem?_append_left (by rw [hk]; exact hj)]
  | y :: l, i + 1, x, h, j, hj => by
    simp at h
    rw [List.flatMap_cons, List.getElem?_append_right (by rw [hk, Nat.add_mul]; omega), hk, Nat.add_mul, Nat.one_mul, show i * k + k + j - k = i * k + j by omega]
    exact flat_at hk l i x h j hj
theorem OwnG.slice {α : Type} {T : TypeId} {k : Nat} {enc : α → List Value} {w : World} {base : Nat} {v : Value} {l : List α} (h : OwnG T k enc w base v l) : ∃ a cap, v = .slice a l.length cap := by
  rcases h.2 with ⟨hv, h0⟩ | ⟨b, cap, cur, hv, _⟩
  · exact ⟨none, 0, by rw [hv, h0]⟩
  · exact ⟨some ⟨b, 0, none⟩, cap, hv⟩
theorem OwnG.row {α : Type} {T : TypeId} {k : Nat} {enc : α → List Value} (hk : ∀ x, (enc x).length = k) {w : World} {base : Nat} {a : Option Addr} {cap : Nat} {l : List α} (h : OwnG T k enc w base (.slice a l.length cap) l) {i : Nat} {x : α} (hx : l[i]? = some x) :
    ∃ b, a = some ⟨b, 0, none⟩ ∧ base ≤ b ∧ b < w.heap.size ∧ ∀ j, j < k → w.cell? ⟨b, i * k + j, none⟩ = (enc x)[j]? := by
  have hi : i < l.length := (List.getElem?_eq_some_iff.1 hx).1
  have h' := h
  rcases h.2 with ⟨hv, h0⟩ | ⟨b, cap', cur, hv, hbb, hh, r⟩
  · omega
  · cases hv
    refine ⟨b, rfl, hbb, (Array.getElem?_eq_some_iff.1 hh).1, fun j hj => ?_⟩
    rw [World.ownsRow.cellAt h' (i * k + j) (by
      have : (i + 1) * k ≤ l.length * k := Nat.mul_le_mul_right k hi
      rw [Nat.add_mul] at this
      omega)]
    exact flat_at hk l i x hx j hj
theorem OwnG.base_le {α : Type} {T : TypeId} {k : Nat} {enc : α → List Value} {w : World} {base base' : Nat} {v : Value} {l : List α} (h : OwnG T k enc w base v l) (hb : base' ≤ base) : OwnG T k enc w base' v l := ownsRow_le h hb
theorem OwnG.kt {α : Type} {T : TypeId} {k : Nat} {enc : α → List Value} {w w' : World} {base : Nat} {v : Value} {l : List α} (h : OwnG T k enc w base v l) (hk : ∀ (b : Nat) (cur : Array Value), w.heap[b]? = some (Obj.cells cur T (0, 0)) → w'.heap[b]? = w.heap[b]?) : OwnG T k enc w' base v l := by
  refine ⟨h.1, ?_⟩
  rcases h.2 with h0 | ⟨b, cap, cur, hv, hbb, hh, r⟩
  · exact .inl h0
  · exact .inr ⟨b, cap, cur, hv, hbb, (hk b cur hh).trans hh, r⟩
theorem MapS.block {w : World} {b n : Nat} {f : ByteArray → Option Nat} (h : MapS w b n f) : ∃ es c, w.heap[b]? = some (.map es c) := by
  obtain ⟨D, ⟨es, clock, hb, _⟩, _⟩ := h
  exact ⟨es, clock, hb⟩
/-- At the operation 'm[k] = v'. -/
theorem wpList_put (w : World) {b n : Nat} {f : ByteArray → Option Nat} {ops : Array Oper} {rest : List Oper} {o : Oper} {a : Act} {Q : Exit → Act → World → Prop} (hg : o.guard = none) (m x v : Operand) (t : TypeId) (hop : o.op = Op.mapUpdate t m x v) (ht : Try.prog.underlying t = some (.map 9 3))
    (hm : a.eval m = .map (some b)) (h : MapS w b n f) (hn : n < maxLen) (y : ByteArray) (l : Lit) (c : Nat) (hx : a.eval x = .string y) (hv : a.eval v = .int .i64 (c : Nat)) (hk : keyOf Try.prog 9 (.string y) = some l) (hc : c ≤ 9223372036854775807)
    (hK : ∀ w', MapS w' b (n + 1) (fun z => if z = y then some c else f z) → w.grownBy w' (some b) → wpList Try.prog ops Q rest (a.put o.dst undef) w') :
    wpList Try.prog ops Q (o :: rest) a w := by
  refine wpList_plain hg fun K' hK' => ?_
  obtain ⟨w', hrun, r1, r2⟩ := h.put ht hn hk hc
  unfold Oper.wp
  simp [execOp, hop, hm, hx, hv, hrun, Result.andThen]
  exact hK' _ _ (hK w' r1 r2)
theorem text_append (s t : List UInt8) : textOf s ++ textOf t = textOf (s ++ t) := by
  apply ByteArray.ext
  simp [textOf]
theorem text_size (s : List UInt8) : (textOf s).size = s.length := by simp [textOf, ByteArray.size]
/-- One merge is laid behind the others. -/
theorem mg_app (wr : World) (base : Nat) (v : Value) (l : List Mg) (x : Mg) (hown : OwnG 59 3 encG wr base v l) (hb : base ≤ wr.heap.size) (hl : l.length ≤ 8388608) :
    ∃ v' w', (Builtin.append_ #[24, 24] 24 #[v, .slice (some ⟨wr.heap.size, 0, none⟩) 1 1]).run Try.prog (wr.alloc (.cells #[.int .i64 x.l, .int .i64 x.r, .int .i64 x.i] 59)) = .ok v' w' ∧ OwnG 59 3 encG w' base v' (l ++ [x]) ∧ Bu wr.heap.size v.ownBlock wr.heap.size wr w' ∧ Moved v v' wr.heap.size := by
  obtain ⟨i0, hi0, hz0, hz1, hz2⟩ := info_parts infoMg
  have bx := box_below wr (.cells #[.int .i64 x.l, .int .i64 x.r, .int .i64 x.i] 59)
  obtain ⟨v', w', h1, h2, h3, h4⟩ := run_own_g 24 59 i0 _ 3 24 encG (fun _ => rfl) (by omega) encG_one Try.underlying24 hi0 hz0 hz1 hz2 rfl (wr.alloc (.cells #[.int .i64 x.l, .int .i64 x.r, .int .i64 x.i] 59)) base v l x wr.heap.size 1 (hown.below bx (Nat.le_refl _)) (heap_alloc_new wr _) (by simp; omega) (by omega) (by omega)
  refine ⟨v', w', h1, h2, ⟨h3.os.trans bx.os, h3.tape.trans bx.tape, h3.output.trans bx.output, Nat.le_trans bx.size h3.size, fun k hk hne ho => (h3.block k (by have := bx.size; omega) ho).trans (bx.block k hk)⟩, fun b hbb => ?_⟩
  rcases h4 b hbb with h | h
  · exact .inl h
  · exact .inr (Nat.le_trans bx.size h)
end Go.Proofs.Ytonbfcpbgkpbaaa
