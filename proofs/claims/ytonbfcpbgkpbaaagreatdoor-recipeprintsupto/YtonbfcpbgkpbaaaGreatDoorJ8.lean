import Derived.Test.YtonbfcpbgkpbaaaGreatDoorJ7
import Derived.OrdersHeld
import Derived.Laws.MakeOwn
section
/- A region that draws its order: moves may be taken first; so may a load that yields the same on either side of a call. -/
namespace Go.Proofs.YtonbfcpbgkpbaaaGreatDoor
open Go.RowKit
section
variable {P : Program} {ops : Array Oper} {md : Region.Mode} {Q : Exit → Act → World → Prop} {S : World → Prop}
/-- From here on just one operation may come up at a time: those numbered is. -/
def oneB (md : Region.Mode) (ops : Array Oper) : List Nat → Array Bool → Bool
  | [], listed => decide (Region.ready md ops listed = [])
  | i :: is, listed => decide (Region.ready md ops listed = [i]) && oneB md ops is (listed.setIfInBounds i true)
def pick (l : List Oper) : List Nat → List Oper
  | [] => []
  | i :: is => (l.drop i).take 1 ++ pick l is
theorem wpAny_one (l : List Oper) : ∀ (is : List Nat) (listed : Array Bool) (a : Act) (w : World), (∀ i ∈ is, i < l.length) → oneB md l.toArray is listed = true →
    wpList P l.toArray Q (pick l is) a w → wpAny P md l.toArray Q is.length listed a w
  | [], _, _, _, _, hB, h => ⟨of_decide_eq_true hB, h⟩
  | i :: is, listed, a, w, hl, hB, h => by
    simp only [oneB, Bool.and_eq_true, decide_eq_true_eq] at hB
    have hi := hl i (List.mem_cons_self ..)
    have h0 : l.toArray[i]? = some l[i] := by simp [hi]
    have h1 : pick l (i :: is) = l[i] :: pick l is := by
      show (l.drop i).take 1 ++ pick l is = _
      rw [List.drop_eq_getElem_cons hi]
      rfl
    rw [h1] at h
    refine ⟨fun e => (by rw [hB.1] at e; cases e), fun k hk => ?_⟩
    rw [hB.1] at hk
    obtain rfl : k = i := by simpa using hk
    have hw : wpOp P l.toArray Q k (wpList P l.toArray Q (pick l is)) a w := by unfold wpOp; simp only [h0]; exact h
    exact wpOp_mono (fun a' w' h' => wpAny_one l is _ a' w' (fun j hj => hl j (List.mem_cons_of_mem _ hj)) hB.2 h') hw
/-- A move may be taken first. -/
theorem wpAny_move {i fuel : Nat} {oi : Oper} (x : Operand) {listed : Array Bool} {a : Act} {w : World} (hi : ops[i]? = some oi) (ho : oi.op = .move x) (hg : oi.guard = none)
    (hs : Region.noSelect ops = true) (hf : Region.free md ops listed i = true) (hr : (Region.ready md ops listed).contains i = true)
    (hQ : ∀ c (a' : Act) w v, Q (.panic c) (a'.put oi.dst v) w → Q (.panic c) a' w)
    (h : wpAny P md ops Q fuel (listed.setIfInBounds i true) (a.put oi.dst (a.eval x)) w) : wpAny P md ops Q (fuel + 1) listed a w :=
  wpAny_take hi hs hf hr (fun c a' w' h => hQ c a' w' _ h) (.inl ⟨by simp [Region.wanted, hg], fun w' => by simp [execOp, ho, Sem.run_pure]⟩) h
/-- Two may come up: a load, which yields the same on either side of the other. It is taken first; behind the two one at a time. -/
theorem wpAny_load {i j : Nat} {oi oj : Oper} {u : Value} {listed : Array Bool} {a : Act} {w : World} (l : List Oper) (is : List Nat) (hi : l.toArray[i]? = some oi) (hj : l.toArray[j]? = some oj)
    (hs : Region.noSelect l.toArray = true) (hap : oj.apart l.toArray oi = true) (hij : i ≠ j)
    (hr : Region.ready md l.toArray listed = [i, j]) (hri : Region.ready md l.toArray (listed.setIfInBounds i true) = [j]) (hrj : Region.ready md l.toArray (listed.setIfInBounds j true) = [i])
    (hB : oneB md l.toArray is ((listed.setIfInBounds j true).setIfInBounds i true) = true) (hl : ∀ i ∈ is, i < l.length)
    (hQ : ∀ c (a' : Act) w v, Q (.panic c) (a'.put oj.dst v) w → Q (.panic c) a' w)
    (hy : YieldsIf P l.toArray S oj u a) (hS : S w) (hg : oi.guard = none)
    (h : ∀ K : Act → World → Prop, (∀ a' w', S w' → wpList P l.toArray Q (pick l is) a' w' → K a' w') → oi.wp P (a.put oj.dst u) w K Q) :
    wpAny P md l.toArray Q (is.length + 2) listed a w := by
  have hsel := Region.noSelect_spec hs
  have h1 : wpOp P l.toArray Q i (fun a' w' => S w' ∧ wpAny P md l.toArray Q is.length ((listed.setIfInBounds j true).setIfInBounds i true) a' w') (a.put oj.dst u) w := by
    unfold wpOp
    simp only [hi, Region.wanted, hg, if_true]
    exact .inl (h _ fun a' w' hs' hw' => ⟨hs', wpAny_one l is _ a' w' hl hB hw'⟩)
  refine ⟨fun e => (by rw [hr] at e; cases e), fun k hk => ?_⟩
  rw [hr] at hk
  have hk' : k = i ∨ k = j := by simpa using hk
  rcases hk' with rfl | rfl
  · have h2 := wpOp_putIf hi hap (fun cs b => hsel j oj cs b hj) (fun cs b => hsel k oi cs b hi) (fun c a' w' h => hQ c a' w' _ h) hy h1
    refine wpOp_mono (fun a' w' h3 => ?_) h2
    refine ⟨fun e => (by rw [hri] at e; cases e), fun m hm => ?_⟩
    rw [hri] at hm
    obtain rfl : m = j := by simpa using hm
    refine h3.1.wpOp hj h3.2.1 ?_
    rw [Array.setIfInBounds_comm _ _ hij]
    exact h3.2.2
  · refine hy.wpOp hj hS ?_
    refine ⟨fun e => (by rw [hrj] at e; cases e), fun m hm => ?_⟩
    rw [hrj] at hm
    obtain rfl : m = i := by simpa using hm
    exact wpOp_mono (fun a' w' h3 => h3.2) h1
/-- Two may come up: a load, which yields the same on either side of the other. It is taken first; behind the two one at a time. -/
theorem wpAny_load2 {i j : Nat} {oi oj : Oper} {u : Value} {listed : Array Bool} {a : Act} {w : World} (l : List Oper) (is : List Nat) (hi : l.toArray[i]? = some oi) (hj : l.toArray[j]? = some oj)
    (hs : Region.noSelect l.toArray = true) (hap : oj.apart l.toArray oi = true) (hij : i ≠ j)
    (hr : Region.ready md l.toArray listed = [j, i]) (hri : Region.ready md l.toArray (listed.setIfInBounds i true) = [j]) (hrj : Region.ready md l.toArray (listed.setIfInBounds j true) = [i])
    (hB : oneB md l.toArray is ((listed.setIfInBounds j true).setIfInBounds i true) = true) (hl : ∀ i ∈ is, i < l.length)
    (hQ : ∀ c (a' : Act) w v, Q (.panic c) (a'.put oj.dst v) w → Q (.panic c) a' w)
    (hy : YieldsIf P l.toArray S oj u a) (hS : S w) (hg : oi.guard = none)
    (h : ∀ K : Act → World → Prop, (∀ a' w', S w' → wpList P l.toArray Q (pick l is) a' w' → K a' w') → oi.wp P (a.put oj.dst u) w K Q) :
    wpAny P md l.toArray Q (is.length + 2) listed a w := by
  have hsel := Region.noSelect_spec hs
  have h1 : wpOp P l.toArray Q i (fun a' w' => S w' ∧ wpAny P md l.toArray Q is.length ((listed.setIfInBounds j true).setIfInBounds i true) a' w') (a.put oj.dst u) w := by
    unfold wpOp
    simp only [hi, Region.wanted, hg, if_true]
    exact .inl (h _ fun a' w' hs' hw' => ⟨hs', wpAny_one l is _ a' w' hl hB hw'⟩)
  refine ⟨fun e => (by rw [hr] at e; cases e), fun k hk => ?_⟩
  rw [hr] at hk
  have hk' : k = i ∨ k = j := by
    have h9 : k = j ∨ k = i := by simpa using hk
    exact h9.symm
  rcases hk' with rfl | rfl
  · have h2 := wpOp_putIf hi hap (fun cs b => hsel j oj cs b hj) (fun cs b => hsel k oi cs b hi) (fun c a' w' h => hQ c a' w' _ h) hy h1
    refine wpOp_mono (fun a' w' h3 => ?_) h2
    refine ⟨fun e => (by rw [hri] at e; cases e), fun m hm => ?_⟩
    rw [hri] at hm
    obtain rfl : m = j := by simpa using hm
    refine h3.1.wpOp hj h3.2.1 ?_
    rw [Array.setIfInBounds_comm _ _ hij]
    exact h3.2.2
  · refine hy.wpOp hj hS ?_
    refine ⟨fun e => (by rw [hrj] at e; cases e), fun m hm => ?_⟩
    rw [hrj] at hm
    obtain rfl : m = i := by simpa using hm
    exact wpOp_mono (fun a' w' h3 => h3.2) h1
end
end Go.Proofs.YtonbfcpbgkpbaaaGreatDoor
end
section
/- recipe's meaning: what it holds in memory. -/
namespace Go.Proofs.YtonbfcpbgkpbaaaGreatDoor
open Go.RowKit Go.Sort Go.Joins
set_option linter.unusedVariables false
set_option maxRecDepth 100000
def encS1 (s : List UInt8) : List Value := [.string (textOf s)]
def encG (x : Mg) : List Value := [.int .i64 x.l, .int .i64 x.r, .int .i64 x.i]
theorem encG_one (x : Mg) : ∀ v ∈ encG x, v.oneCell' = true := by
  intro v hv
  simp [encG] at hv
  rcases hv with rfl | rfl | rfl <;> rfl
theorem infoMg : (Tryz.prog.info? 39).map (fun i => (i.zero, i.size, i.bytes)) = some (some (.agg #[.int .i64 0, .int .i64 0, .int .i64 0]), 3, 24) := by kernel_rfl
theorem infoStr : (Tryz.prog.info? 9).map (fun i => (i.zero, i.size, i.bytes)) = some (some (.string ⟨#[]⟩), 1, 16) := by kernel_rfl
/-- The words lie at block b. -/
def WB (w : World) (b : Nat) (l : List (List UInt8)) : Prop := w.heap[b]? = some (.cells (l.map fun s => Value.string (textOf s)).toArray 9 (0, 0))
theorem WB.at_ {w : World} {b : Nat} {l : List (List UInt8)} (h : WB w b l) {i : Nat} (hi : i < l.length) : w.cell? ⟨b, i, none⟩ = some (.string (textOf (l.getD i []))) := by
  refine (cell_of_block h i).trans ?_
  simp [List.getD, List.getElem?_eq_getElem hi]
theorem WB.set {w : World} {b : Nat} {l : List (List UInt8)} (h : WB w b l) (i : Nat) (s : List UInt8) : WB (w.setCell ⟨b, i, none⟩ (.string (textOf s))) b (l.set i s) := by
  have := block_setCell h (i := i) (.string (textOf s))
  unfold WB
  rw [this]
  congr 2
  apply Array.ext'
  simp [List.map_set]
theorem flat_one (l : List (List UInt8)) : l.flatMap encS1 = l.map fun s => Value.string (textOf s) := by
  induction l with
  | nil => rfl
  | cons s l ih => rw [List.flatMap_cons, List.map_cons, ih]; rfl
theorem WB.own {w : World} {b : Nat} {l : List (List UInt8)} (h : WB w b l) (base : Nat) (hb : base ≤ b) (hl : l.length ≤ 4611686018427387904) : OwnG 9 1 encS1 w base (.slice (some ⟨b, 0, none⟩) l.length l.length) l :=
  ⟨by rw [flat_one]; simp, .inr ⟨b, l.length, _, rfl, hb, h, Nat.le_refl _, by unfold maxLen; omega, by simp, by rw [flat_one]; simp [List.take_of_length_le]⟩⟩
theorem run_makeT (u : World) (n : Nat) (hn : n ≤ 4294967296) : (Instr.makeSlice 22 (.int .i64 (n : Nat)) (.int .i64 (n : Nat))).run Tryz.prog u = .ok (.slice (some ⟨u.heap.size, 0, none⟩) n n) (u.alloc (.cells ((List.replicate n ([] : List UInt8)).map fun s => Value.string (textOf s)).toArray 9)) := by
  obtain ⟨i0, hi, hz0, hz1, hz2⟩ := info_parts infoStr
  have h := run_make (P := Tryz.prog) u 22 9 i0 _ Tryz.underlying22 hi hz0 .i64 .i64 (n : Int) (n : Int) (by omega) (Int.le_refl _) (by rw [hz2]; omega) (by omega)
  rw [hz1] at h
  have e : ((n : Int)).toNat = n := by omega
  rw [e] at h
  have e2 : ((List.replicate n ([] : List UInt8)).map fun s => Value.string (textOf s)).toArray = madeCells (Value.string ⟨#[]⟩).cells (n * 1) := by
    apply Array.ext
    · simp [madeCells]
    · intro i h1 h2
      simp [madeCells, Value.cells, Nat.mod_one, textOf]
  rw [e2]
  exact h
theorem flat_at {α : Type} {k : Nat} {enc : α → List Value} (hk : ∀ x, (enc x).length = k) : ∀ (l : List α) (i : Nat) (x : α), l[i]? = some x → ∀ j, j < k → (l.flatMap enc)[i * k + j]? = (enc x)[j]?
  | [], i, x, h, j, hj => by simp at h
  | y :: l, 0, x, h, j, hj => by
    simp at h
    subst h
    rw [List.flatMap_cons, Nat.zero_mul, Nat.zero_add, List.getElem?_append_left (by rw [hk]; exact hj)]
  | y :: l, i + 1, x, h, j, hj => by
    simp at h
    rw [List.flatMap_cons, List.getElem?_append_right (by rw [hk, Nat.add_mul]; omega), hk, Nat.add_mul, Nat.one_mul, show i * k + k + j - k = i * k + j by omega]
    exact flat_at hk l i x h j hj
theorem OwnG.slice {α : Type} {T : TypeId} {k : Nat} {enc : α → List Value} {w : World} {base : Nat} {v : Value} {l : List α} (h : OwnG T k enc w base v l) : ∃ a cap, v = .slice a l.length cap := by
  rcases h.2 with ⟨hv, h0⟩ | ⟨b, cap, cur, hv, _⟩
  · exact ⟨none, 0, by rw [hv, h0]⟩
  · exact ⟨some ⟨b, 0, none⟩, cap, hv⟩
theorem OwnG.row {α : Type} {T : TypeId} {k : Nat} {enc : α → List Value} (hk : ∀ x, (enc x).length = k) {w : World} {base : Nat} {a : Option Addr} {cap : Nat} {l : List α} (h : OwnG T k enc w base (.slice a l.length cap) l) {i : Nat} {x : α} (hx : l[i]? = some x) :
    ∃ b, a = some ⟨b, 0, none⟩ ∧ base ≤ b ∧ b < w.heap.size ∧ ∀ j, j < k → w.cell? ⟨b, i * k + j, none⟩ = (enc x)[j]? := by
  have hi : i < l.length := (List.getElem?_eq_some_iff.1 hx).1
  have h' := h
  rcases h.2 with ⟨hv, h0⟩ | ⟨b, cap', cur, hv, hbb, hh, r⟩
  · omega
  · cases hv
    refine ⟨b, rfl, hbb, (Array.getElem?_eq_some_iff.1 hh).1, fun j hj => ?_⟩
    rw [World.ownsRow.cellAt h' (i * k + j) (by
      have : (i + 1) * k ≤ l.length * k := Nat.mul_le_mul_right k hi
      rw [Nat.add_mul] at this
      omega)]
    exact flat_at hk l i x hx j hj
theorem OwnG.base_le {α : Type} {T : TypeId} {k : Nat} {enc : α → List Value} {w : World} {base base' : Nat} {v : Value} {l : List α} (h : OwnG T k enc w base v l) (hb : base' ≤ base) : OwnG T k enc w base' v l := ownsRow_le h hb
theorem OwnG.kt {α : Type} {T : TypeId} {k : Nat} {enc : α → List Value} {w w' : World} {base : Nat} {v : Value} {l : List α} (h : OwnG T k enc w base v l) (hk : ∀ (b : Nat) (cur : Array Value), w.heap[b]? = some (Obj.cells cur T (0, 0)) → w'.heap[b]? = w.heap[b]?) : OwnG T k enc w' base v l := by
  refine ⟨h.1, ?_⟩
  rcases h.2 with h0 | ⟨b, cap, cur, hv, hbb, hh, r⟩
  · exact .inl h0
  · exact .inr ⟨b, cap, cur, hv, hbb, (hk b cur hh).trans hh, r⟩
theorem MapS.block {w : World} {b n : Nat} {f : ByteArray → Option Nat} (h : MapS w b n f) : ∃ es c, w.heap[b]? = some (.map es c) := by
  obtain ⟨D, ⟨es, clock, hb, _⟩, _⟩ := h
  exact ⟨es, clock, hb⟩
/-- At the operation 'm[k] = v'. -/
theorem wpList_put (w : World) {b n : Nat} {f : ByteArray → Option Nat} {ops : Array Oper} {rest : List Oper} {o : Oper} {a : Act} {Q : Exit → Act → World → Prop} (hg : o.guard = none) (m x v : Operand) (t : TypeId) (hop : o.op = Op.mapUpdate t m x v) (ht : Tryz.prog.underlying t = some (.map 9 3))
    (hm : a.eval m = .map (some b)) (h : MapS w b n f) (hn : n < maxLen) (y : ByteArray) (l : Lit) (c : Nat) (hx : a.eval x = .string y) (hv : a.eval v = .int .i64 (c : Nat)) (hk : keyOf Tryz.prog 9 (.string y) = some l) (hc : c ≤ 9223372036854775807)
    (hK : ∀ w', MapS w' b (n + 1) (fun z => if z = y then some c else f z) → w.grownBy w' (some b) → wpList Tryz.prog ops Q rest (a.put o.dst undef) w') :
    wpList Tryz.prog ops Q (o :: rest) a w := by
  refine wpList_plain hg fun K' hK' => ?_
  obtain ⟨w', hrun, r1, r2⟩ := h.put ht hn hk hc
  unfold Oper.wp
  simp [execOp, hop, hm, hx, hv, hrun, Result.andThen]
  exact hK' _ _ (hK w' r1 r2)
theorem text_append (s t : List UInt8) : textOf s ++ textOf t = textOf (s ++ t) := by
  apply ByteArray.ext
  simp [textOf]
theorem text_size (s : List UInt8) : (textOf s).size = s.length := by simp [textOf, ByteArray.size]
/-- One merge is laid behind the others. -/
theorem mg_app (wr : World) (base : Nat) (v : Value) (l : List Mg) (x : Mg) (hown : OwnG 39 3 encG wr base v l) (hb : base ≤ wr.heap.size) (hl : l.length ≤ 8388608) :
    ∃ v' w', (Builtin.append_ #[23, 23] 23 #[v, .slice (some ⟨wr.heap.size, 0, none⟩) 1 1]).run Tryz.prog (wr.alloc (.cells #[.int .i64 x.l, .int .i64 x.r, .int .i64 x.i] 39)) = .ok v' w' ∧ OwnG 39 3 encG w' base v' (l ++ [x]) ∧ Bu wr.heap.size v.ownBlock wr.heap.size wr w' ∧ Moved v v' wr.heap.size := by
  obtain ⟨i0, hi0, hz0, hz1, hz2⟩ := info_parts infoMg
  have bx := box_below wr (.cells #[.int .i64 x.l, .int .i64 x.r, .int .i64 x.i] 39)
  obtain ⟨v', w', h1, h2, h3, h4⟩ := run_own_g 23 39 i0 _ 3 24 encG (fun _ => rfl) (by omega) encG_one Tryz.underlying23 hi0 hz0 hz1 hz2 rfl (wr.alloc (.cells #[.int .i64 x.l, .int .i64 x.r, .int .i64 x.i] 39)) base v l x wr.heap.size 1 (hown.below bx (Nat.le_refl _)) (heap_alloc_new wr _) (by simp; omega) (by omega) (by omega)
  refine ⟨v', w', h1, h2, ⟨h3.os.trans bx.os, h3.tape.trans bx.tape, h3.output.trans bx.output, Nat.le_trans bx.size h3.size, fun k hk hne ho => (h3.block k (by have := bx.size; omega) ho).trans (bx.block k hk)⟩, fun b hbb => ?_⟩
  rcases h4 b hbb with h | h
  · exact .inl h
  · exact .inr (Nat.le_trans bx.size h)
end Go.Proofs.YtonbfcpbgkpbaaaGreatDoor
end
section
/- recipe's parser.meaning: its contract. -/
namespace Go.Proofs.YtonbfcpbgkpbaaaGreatDoor
open Go.RowKit Go.Sort Go.Joins
set_option linter.unusedVariables false
set_option linter.unusedSimpArgs false
set_option maxRecDepth 100000
/-- What meaning leaves behind. -/
def MeanPost (w : World) (g : Nat) (z : PZ) (R : Except (Nat × Nat) MD) (e : Ending) (w' : World) : Prop :=
  e = .returned (.tuple #[]) ∧ But g w.heap.size w w' ∧ match R with
  | .error y => ∃ m, PB w' g { z with M0 := m, at' := y.1, why := y.2 }
  | .ok md => ∃ a m, PB w' g { z with W0 := a, M0 := m } ∧ OwnG 9 1 encS1 w' w.heap.size a md.W ∧ OwnG 39 3 encG w' w.heap.size m md.M
/-- What stands between two merges. -/
structure MI (w : World) (g wb mb cb base : Nat) (z : PZ) (r0 : List Wr) (R : Except (Nat × Nat) MD) (k : Nat) (md : MD) (m : Value) (wr : World) : Prop where
  hP : PB wr g { z with M0 := m }
  hR : OwnG 109 9 encW wr 0 z.M r0
  hW : WB wr wb md.W
  hL : md.W.length = r0.length
  hM : ∃ n, n ≤ k ∧ MapS wr mb n (FM md.made)
  hC : wr.heap[cb]? = some (.cells #[.map (some mb)] 75 (0, 0))
  hO : OwnG 39 3 encG wr base m md.M
  hml : md.M.length = k
  hB : But g w.heap.size w wr
  hz : base ≤ wr.heap.size
  hF : meanF (r0.drop k) md = R
theorem meanF_next {r0 : List Wr} {k : Nat} {md : MD} {R : Except (Nat × Nat) MD} {x : Wr} (h : meanF (r0.drop k) md = R) (hx : r0[k]? = some x) : (match meanP x md with | .error e => .error e | .ok d' => meanF (r0.drop (k + 1)) d') = R := by
  obtain ⟨hk, he⟩ := List.getElem?_eq_some_iff.1 hx
  rw [List.drop_eq_getElem_cons hk, he] at h
  exact h
theorem MI.below {w : World} {g wb mb cb base : Nat} {z : PZ} {r0 : List Wr} {R : Except (Nat × Nat) MD} {k : Nat} {md : MD} {m : Value} {wr wx : World} (h : MI w g wb mb cb base z r0 R k md m wr) (hb : Below wr.heap.size wr wx) (hw : w.heap.size ≤ wr.heap.size) : MI w g wb mb cb base z r0 R k md m wx := by
  obtain ⟨hP, hR, hW, hL, ⟨n, hn, hM⟩, hC, hO, hml, hB, hz, hF⟩ := h
  exact ⟨hP.below hb hP.lt, hR.below hb (Nat.le_refl _), (hb.block _ (Array.getElem?_eq_some_iff.1 hW).1).trans hW, hL, ⟨n, hn, hM.kept (hb.block _ hM.lt)⟩, (hb.block _ (Array.getElem?_eq_some_iff.1 hC).1).trans hC, hO.below hb (Nat.le_refl _), hml, hB.trans (But.of_below (hb.mono hw)), Nat.le_trans hz hb.size, hF⟩
/-- A merge as it is written lies at block b. -/
def XM (w : World) (b : Nat) (x : Wr) : Prop := w.heap[b]? = some (.cells #[.int .i64 (x.l.k : Nat), .int .i64 (x.l.at' : Nat), .string (textOf x.l.s), .int .i64 (x.r.k : Nat), .int .i64 (x.r.at' : Nat), .string (textOf x.r.s), .int .i64 (x.i.k : Nat), .int .i64 (x.i.at' : Nat), .string (textOf x.i.s)] 109 (0, 0))
set_option maxHeartbeats 2000000 in
theorem meaning_any (g base0 : Nat) (z : PZ) (r0 : List Wr) (w : World) (h : PB w g z) (hM0 : z.M0 = .slice none 0 0) (hown : OwnG 109 9 encW w base0 z.M r0) (hg : g < base0) (hbase : base0 ≤ w.heap.size) (hok : ∀ x ∈ r0, WrOk 4194304 x) (hle : r0.length ≤ 4194305) :
    Calls Tryz.prog 47 #[.pointer (some ⟨g, 0, none⟩)] w (MeanPost w g z (meanF r0 ⟨List.replicate r0.length [], [], []⟩)) := by
  obtain ⟨R, hR⟩ : ∃ R, R = meanF r0 ⟨List.replicate r0.length [], [], []⟩ := ⟨_, rfl⟩
  rw [← hR]
  have HR := Lib.hid hR
  have hlt := h.lt
  obtain ⟨ma, mc, hmv⟩ := hown.slice
  have HO0 := Lib.hid hown
  have HOK := Lib.hid hok
  obtain ⟨N, hN⟩ : ∃ N, N = r0.length := ⟨_, rfl⟩
  have HN := Lib.hid hN
  have HLT := Lib.hid hlt
  have HG := Lib.hid hg
  have HBA := Lib.hid hbase
  have hmk := fun u => run_makeT u N (by omega)
  obtain ⟨C0, hC0⟩ : ∃ C0, C0 = ((List.replicate N ([] : List UInt8)).map fun s => Value.string (textOf s)).toArray := ⟨_, rfl⟩
  rw [← hC0] at hmk
  have HC0 := Lib.hid hC0
  have hmm := @run_makeMap Tryz.prog
  have hmf : ∀ (fn : Fn) (first cap : Array Value) (w : World), (Instr.makeFunc fn first cap).run Tryz.prog w = .ok (.func fn first cap) w := fun _ _ _ _ => rfl
  have HZ := Lib.hid h
  have b0 := box_below w (.cells C0 9)
  have b1 := b0.trans ((box_below (w.alloc (.cells C0 9)) (.map #[] 0)).mono b0.size)
  have b2 := b1.trans ((box_below ((w.alloc (.cells C0 9)).alloc (.map #[] 0)) (.cells #[.map (some (w.heap.size + 1))] 75)).mono b1.size)
  have hP2 := h.below b2 hlt
  have c5 := h.c5
  have d5 := hP2.c5
  rw [hmv, ← hN] at c5 d5
  have HMV : Hid (z.M = .slice ma N mc) := Lib.hid (by rw [hmv, hN])
  have hI : MI w g w.heap.size (w.heap.size + 1) (w.heap.size + 1 + 1) (w.heap.size + 1 + 1 + 1) z r0 R 0 ⟨List.replicate N [], [], []⟩ (.slice none 0 0) (((w.alloc (.cells C0 9)).alloc (.map #[] 0)).alloc (.cells #[.map (some (w.heap.size + 1))] 75)) := by
    refine ⟨?_, (OwnG.below hown b2 (Nat.le_refl _)).base_le (Nat.zero_le _), ?_, by simp [hN], ⟨0, Nat.le_refl _, ?_⟩, ?_, OwnG.nil _ _ _ _ _, rfl, .of_below b2, by simp, ?_⟩
    · have e : ({ z with M0 := .slice none 0 0 } : PZ) = z := by rw [← hM0]
      rw [e]; exact hP2
    · unfold WB
      rw [← hC0]
      exact (((box_below ((w.alloc (.cells C0 9)).alloc (.map #[] 0)) (.cells #[.map (some (w.heap.size + 1))] 75)).block _ (by simp; omega)).trans ((box_below (w.alloc (.cells C0 9)) (.map #[] 0)).block _ (by simp))).trans (heap_alloc_new _ _)
    · have hm := MapS.made (w.alloc (.cells C0 9))
      rw [show (w.alloc (.cells C0 9)).heap.size = w.heap.size + 1 by simp] at hm
      exact hm.kept ((box_below ((w.alloc (.cells C0 9)).alloc (.map #[] 0)) _).block _ (by simp))
    · have := heap_alloc_new ((w.alloc (.cells C0 9)).alloc (.map #[] 0)) (.cells #[.map (some (w.heap.size + 1))] 75)
      rwa [show ((w.alloc (.cells C0 9)).alloc (.map #[] 0)).heap.size = w.heap.size + 1 + 1 by simp] at this
    · rw [hR, hN]; rfl
  have HI := Lib.hid hI
  clear hR hown hok hN hg hbase hC0 hmv h b0 b1 b2 hP2 hI hlt
  go_enter Tryz.func47, Tryz.ntmps47
  go_wp2_with fail
  obtain ⟨Y, hY⟩ : ∃ Y, Y = ((w.alloc (.cells C0 9)).alloc (.map #[] 0)).alloc (.cells #[.map (some (w.heap.size + 1))] 75) := ⟨_, rfl⟩
  have HI2 : Hid (MI w g w.heap.size (w.heap.size + 1) (w.heap.size + 1 + 1) (w.heap.size + 1 + 1 + 1) z r0 R 0 ⟨List.replicate N [], [], []⟩ (.slice none 0 0) Y) := by rw [hY]; exact HI
  rw [← hY]
  clear hY HI c5 d5 hmk hmm hmf
  obtain ⟨wb, hwb⟩ : ∃ wb, wb = w.heap.size := ⟨_, rfl⟩
  have HWB := Lib.hid hwb
  rw [← hwb] at HI2 ⊢
  obtain ⟨mb, hmb⟩ : ∃ mb, mb = wb + 1 := ⟨_, rfl⟩
  have HMB := Lib.hid hmb
  rw [← hmb] at HI2 ⊢
  obtain ⟨cb, hcb⟩ : ∃ cb, cb = mb + 1 := ⟨_, rfl⟩
  have HCB := Lib.hid hcb
  rw [← hcb] at HI2 ⊢
  clear hwb hmb hcb
  go_loopw [26] (fun i wr => ∃ k md m, k ≤ N ∧ i = .int .i64 (k : Nat) ∧ MI w g wb mb cb (cb + 1) z r0 R k md m wr) (fun i _ => N - (intOf i).toNat)
  case atStart => exact ⟨0, _, _, Nat.zero_le _, rfl, HI2.out⟩
  case round =>
    obtain ⟨k, md, m, hk, rfl, hI⟩ := hrel
    have HI := Lib.hid hI
    by_cases hlt : k < N
    · obtain ⟨x, hx⟩ : ∃ x, r0[k]? = some x := ⟨_, List.getElem?_eq_getElem (by rw [← HN.out]; exact hlt)⟩
      have g0 : decide ((k : Int) < (N : Int)) = true := decide_eq_true (by omega)
      have hwo := HOK.out x (List.mem_of_getElem? hx)
      have hRr := hI.hR
      rw [HMV.out, HN.out] at hRr
      obtain ⟨rb, rfl, -, hrb, hc⟩ := OwnG.row (k := 9) (enc := encW) encW_length hRr hx
      have c0 : wr.cell? ⟨rb, k * 9, none⟩ = some (.int .i64 (x.l.k : Nat)) := (hc 0 (by omega)).trans rfl
      have c1 : wr.cell? ⟨rb, k * 9 + 1, none⟩ = some (.int .i64 (x.l.at' : Nat)) := (hc 1 (by omega)).trans rfl
      have c2 : wr.cell? ⟨rb, k * 9 + 2, none⟩ = some (.string (textOf x.l.s)) := (hc 2 (by omega)).trans rfl
      have c3 : wr.cell? ⟨rb, k * 9 + 3, none⟩ = some (.int .i64 (x.r.k : Nat)) := (hc 3 (by omega)).trans rfl
      have c4 : wr.cell? ⟨rb, k * 9 + 4, none⟩ = some (.int .i64 (x.r.at' : Nat)) := (hc 4 (by omega)).trans rfl
      have c5 : wr.cell? ⟨rb, k * 9 + 5, none⟩ = some (.string (textOf x.r.s)) := (hc 5 (by omega)).trans rfl
      have c6 : wr.cell? ⟨rb, k * 9 + 6, none⟩ = some (.int .i64 (x.i.k : Nat)) := (hc 6 (by omega)).trans rfl
      have c7 : wr.cell? ⟨rb, k * 9 + 7, none⟩ = some (.int .i64 (x.i.at' : Nat)) := (hc 7 (by omega)).trans rfl
      have c8 : wr.cell? ⟨rb, k * 9 + 8, none⟩ = some (.string (textOf x.i.s)) := (hc 8 (by omega)).trans rfl
      have HX := Lib.hid hx
      have HWO := Lib.hid hwo
      have HRB := Lib.hid hrb
      clear hI hRr hc hx hwo hrb
      go_wp2_with fail
      obtain ⟨V, hV⟩ : ∃ V, V = wr.alloc (.cells #[.int .i64 (x.l.k : Nat), .int .i64 (x.l.at' : Nat), .string (textOf x.l.s), .int .i64 (x.r.k : Nat), .int .i64 (x.r.at' : Nat), .string (textOf x.r.s), .int .i64 (x.i.k : Nat), .int .i64 (x.i.at' : Nat), .string (textOf x.i.s)] 109) := ⟨_, rfl⟩
      have hXM : XM V wr.heap.size x := by rw [hV]; exact heap_alloc_new wr _
      have hbx : Below wr.heap.size wr V := by rw [hV]; exact box_below wr _
      have hI1 := HI.out.below hbx HI.out.hB.size
      rw [← hV]
      obtain ⟨xb, hxb⟩ : ∃ xb, xb = wr.heap.size := ⟨_, rfl⟩
      rw [← hxb] at hXM ⊢
      have HXB := Lib.hid hxb
      have HXM := Lib.hid hXM
      have HI1 := Lib.hid hI1
      have hxlt : xb < V.heap.size := (Array.getElem?_eq_some_iff.1 hXM).1
      have HXL := Lib.hid hxlt
      obtain ⟨n, hn, hMS⟩ := hI1.hM
      have hcc : V.cell? ⟨cb, 0, none⟩ = some (.map (some mb)) := (cell_of_block hI1.hC 0).trans rfl
      have hnx := meanF_next hI1.hF HX.out
      have H1 := idOf_any cb mb n md.made x.l.s V (by have := HWO.out.1; omega) hMS hcc
      have H2 := idOf_any cb mb n md.made x.r.s V (by have := HWO.out.2.1; omega) hMS hcc
      have hPP := hI1.hP
      have HPR := fun p y => prefuse_any g _ p y V hPP
      unfold meanP at hnx
      have y1 : V.cell? ⟨xb, 1, none⟩ = some (.int .i64 (x.l.at' : Nat)) := (cell_of_block hXM 1).trans rfl
      have y2 : V.cell? ⟨xb, 2, none⟩ = some (.string (textOf x.l.s)) := (cell_of_block hXM 2).trans rfl
      have y4 : V.cell? ⟨xb, 4, none⟩ = some (.int .i64 (x.r.at' : Nat)) := (cell_of_block hXM 4).trans rfl
      have y5 : V.cell? ⟨xb, 5, none⟩ = some (.string (textOf x.r.s)) := (cell_of_block hXM 5).trans rfl
      have y7 : V.cell? ⟨xb, 7, none⟩ = some (.int .i64 (x.i.at' : Nat)) := (cell_of_block hXM 7).trans rfl
      have y8 : V.cell? ⟨xb, 8, none⟩ = some (.string (textOf x.i.s)) := (cell_of_block hXM 8).trans rfl
      have f0 := fun j => unfrozen_of_block hXM j
      clear c0 c1 c2 c3 c4 c5 c6 c7 c8 hV hbx hI1 hxb hXM hxlt hn hMS hcc hPP
      refine H1.mono ?_
      rintro e w1 ⟨rfl, he⟩
      obtain rfl := he.symm
      cases hA : idOfP md.made x.l.s with
      | none =>
        rw [hA] at hnx
        have HRR := Lib.hid hnx
        clear H1 H2 hnx hA
        go_wp2_with fail
        refine (HPR _ _).mono ?_
        rintro e w2 ⟨rfl, hP2, hb2⟩
        go_wp2_with fail
        refine bodyPost_end (results_none rfl _ _ _) rfl ?_
        rw [← HRR.out]
        exact ⟨rfl, HI1.out.hB.trans (hb2.mono HI1.out.hB.size), m, hP2⟩
      | some a =>
        rw [hA] at hnx
        simp only at hnx
        have HA := Lib.hid hA
        clear hA H1
        go_wp2_with fail
        refine H2.mono ?_
        rintro e w1 ⟨rfl, he⟩
        obtain rfl := he.symm
        cases hB : idOfP md.made x.r.s with
        | none =>
          rw [hB] at hnx
          have HRR := Lib.hid hnx
          clear H2 hnx hB
          go_wp2_with fail
          refine (HPR _ _).mono ?_
          rintro e w2 ⟨rfl, hP2, hb2⟩
          go_wp2_with fail
          refine bodyPost_end (results_none rfl _ _ _) rfl ?_
          rw [← HRR.out]
          exact ⟨rfl, HI1.out.hB.trans (hb2.mono HI1.out.hB.size), m, hP2⟩
        | some b =>
          rw [hB] at hnx
          simp only at hnx
          have HBB := Lib.hid hB
          clear hB H2 HPR
          have hvl := val_small HWO.out.2.2.1 HWO.out.2.2.2
          have HV := valueOf_any (textOf x.i.s) 10 (by omega) (by have := HWO.out.2.2.1; simpa [textOf, ByteArray.size] using this) (by simpa [tl, textOf] using HWO.out.2.2.2) V
          rw [show tl (textOf x.i.s) = x.i.s by simp [tl, textOf]] at HV
          generalize valF 10 0 x.i.s = v at *
          have HVL := Lib.hid hvl
          have HNX := Lib.hid hnx
          clear hnx
          go_wp2_with fail
          refine HV.mono ?_
          rintro e V2 ⟨rfl, hb2⟩
          have hI2 := HI1.out.below hb2 HI1.out.hB.size
          have hX2 : XM V2 xb x := (hb2.block _ HXL.out).trans HXM.out
          have hPP := hI2.hP
          have HPR := fun p y => prefuse_any g _ p y V2 hPP
          have y1 : V2.cell? ⟨xb, 1, none⟩ = some (.int .i64 (x.l.at' : Nat)) := (cell_of_block hX2 1).trans rfl
          have y2 : V2.cell? ⟨xb, 2, none⟩ = some (.string (textOf x.l.s)) := (cell_of_block hX2 2).trans rfl
          have y5 : V2.cell? ⟨xb, 5, none⟩ = some (.string (textOf x.r.s)) := (cell_of_block hX2 5).trans rfl
          have y7 : V2.cell? ⟨xb, 7, none⟩ = some (.int .i64 (x.i.at' : Nat)) := (cell_of_block hX2 7).trans rfl
          have f0 := fun j => unfrozen_of_block hX2 j
          have hLL := hI2.hL
          have hWW := hI2.hW
          rw [← HN.out] at hLL
          have HI2 := Lib.hid hI2
          have HX2 := Lib.hid hX2
          clear HV hb2 hX2 hPP hI2
          have hbad : (v < 256 ∨ N ≤ v - 256 ∨ md.W.getD (v - 256) [] ≠ []) → R = .error (x.i.at', 24) := fun hh => by
            have := HNX.out
            rw [hLL, if_pos hh] at this
            exact this.symm
          have hgood : ¬ (v < 256 ∨ N ≤ v - 256 ∨ md.W.getD (v - 256) [] ≠ []) → meanF (r0.drop (k + 1)) ⟨md.W.set (v - 256) (x.l.s ++ x.r.s), (x.l.s ++ x.r.s, v) :: md.made, md.M ++ [⟨(a : Int), (b : Int), (v : Int)⟩]⟩ = R := fun hh => by
            have := HNX.out
            rw [hLL, if_neg hh] at this
            exact this
          have HLL := Lib.hid hLL
          have HBD := Lib.hid hbad
          have HGD := Lib.hid hgood
          clear hbad hgood hLL HNX
          rcases Nat.lt_or_ge v 256 with h256 | h256
          · have g1 : decide ((v : Int) - 256 < 0) = true := decide_eq_true (by omega)
            have HRR := Lib.hid (HBD.out (.inl h256))
            clear hWW h256
            go_wp2_with fail
            refine (HPR _ _).mono ?_
            rintro e w2 ⟨rfl, hP2, hb2⟩
            go_wp2_with fail
            refine bodyPost_end (results_none rfl _ _ _) rfl ?_
            rw [HRR.out]
            exact ⟨rfl, HI2.out.hB.trans (hb2.mono HI2.out.hB.size), m, hP2⟩
          · obtain ⟨q, rfl⟩ : ∃ q, v = q + 256 := ⟨v - 256, by omega⟩
            have g1 : decide ((q : Int) < 0) = false := decide_eq_false (by omega)
            rcases Nat.lt_or_ge q N with hqN | hqN
            · have g2 : decide ((N : Int) ≤ (q : Int)) = false := decide_eq_false (by omega)
              have x1 := hWW.at_ (i := q) (by rw [HLL.out]; exact hqN)
              by_cases hemp : md.W.getD q [] = []
              · have g3 : ((textOf (md.W.getD q [])).toList == ([] : List UInt8)) = true := by rw [text_list]; simpa using hemp
                have hz1 : (textOf x.l.s).size ≤ 4194304 := by rw [text_size]; exact HWO.out.1
                have hz2 : (textOf x.r.s).size ≤ 4194304 := by rw [text_size]; exact HWO.out.2.1
                have hkey := keyS (textOf (x.l.s ++ x.r.s)) (by rw [text_size, List.length_append]; have := HWO.out.1; have := HWO.out.2.1; omega)
                have hap := text_append x.l.s x.r.s
                have hgo := HGD.out (by rw [show q + 256 - 256 = q by omega]; intro hh; rcases hh with hh | hh | hh <;> first | omega | exact hh hemp)
                rw [show q + 256 - 256 = q by omega] at hgo
                have e256 : (256 : Int) + (q : Int) = ((q + 256 : Nat) : Int) := by omega
                have HGO := Lib.hid hgo
                have HKEY := Lib.hid hkey
                have HAP := Lib.hid hap
                have HEE := Lib.hid e256
                have hq2 : (256 : Int) + (q : Int) ≤ 1000000000000000 := by have := HVL.out; omega
                obtain ⟨y, hy⟩ : ∃ y, y = textOf (md.W.getD q []) := ⟨_, rfl⟩
                have HY := Lib.hid hy
                have HQN := Lib.hid hqN
                rw [← hy] at x1 g3
                clear hy
                clear hWW h256 hemp hgo hkey hap e256 HPR y1 y7
                go_upto_region 16 with fail
                rw [HAP.out, HEE.out]
                have HZ1 := Lib.hid hz1
                clear hz1 hz2 y2 y5 x1 f0 hq2
                have hI3 := HI2.out.below (below_drewN (Below.refl _ _) 1) HI2.out.hB.size
                obtain ⟨sw, hsw⟩ : ∃ sw, sw = textOf (x.l.s ++ x.r.s) := ⟨_, rfl⟩
                have HSW := Lib.hid hsw
                rw [← hsw]
                clear hsw g1 g2 g3
                refine wp_region_any (by kernel_rfl) ?_
                show wpAny _ _ _ _ 9 _ _ _
                refine wpAny_move (i := 0) (.tmp 2) rfl rfl rfl (by kernel_rfl) (by kernel_rfl) (by kernel_rfl) (fun _ _ _ _ h => h) ?_
                obtain ⟨U, hU⟩ : ∃ U, U = V2.drew := ⟨_, rfl⟩
                have hI3 : MI w g wb mb cb (cb + 1) z r0 R k md m U := by rw [hU]; exact hI3
                have hsU : V2.heap.size = U.heap.size := by rw [hU]; rfl
                rw [show ({ V2 with drawn := V2.drawn + 1 } : World) = U from hU.symm]
                have hcc : U.cell? ⟨cb, 0, none⟩ = some (.map (some mb)) := (cell_of_block hI3.hC 0).trans rfl
                have hww : U.cell? ⟨wb, q, none⟩ = some (.string y) := by
                  rw [HY.out]; exact hI3.hW.at_ (by rw [HLL.out]; exact HQN.out)
                have fw := fun j => unfrozen_of_block hI3.hW j
                have HI3 := Lib.hid hI3
                clear hU hI3
                refine wpAny_move (i := 1) (.tmp 10) rfl rfl rfl (by kernel_rfl) (by kernel_rfl) (by kernel_rfl) (fun _ _ _ _ h => h) ?_
                refine wpAny_move (i := 3) (.tmp 11) rfl rfl rfl (by kernel_rfl) (by kernel_rfl) (by kernel_rfl) (fun _ _ _ _ h => h) ?_
                refine wpAny_move (i := 4) (.tmp 11) rfl rfl rfl (by kernel_rfl) (by kernel_rfl) (by kernel_rfl) (fun _ _ _ _ h => h) ?_
                refine wpAny_move (i := 5) (.tmp 12) rfl rfl rfl (by kernel_rfl) (by kernel_rfl) (by kernel_rfl) (fun _ _ _ _ h => h) ?_
                go_simp
                refine wpAny_take (i := 6) (v := .pointer (some ⟨wb, q, none⟩)) rfl (by kernel_rfl) (by kernel_rfl) (by kernel_rfl) (fun _ _ _ h => h) (.inl ⟨by kernel_rfl, fun w' => by go_simp⟩) ?_
                go_simp
                refine wpAny_load2 (i := 7) (j := 2) (u := .map (some mb)) (S := fun w' => w'.cell? ⟨cb, 0, none⟩ = some (.map (some mb))) _ [8] rfl rfl (by kernel_rfl) (by kernel_rfl) (by omega) (by kernel_rfl) (by kernel_rfl) (by kernel_rfl) (by kernel_rfl) (by simp) (fun _ _ _ _ h => h) (.inl ⟨by kernel_rfl, fun w' hw' => by go_simp⟩) hcc rfl ?_
                intro K hK
                simp only [pick, List.take_succ_cons, List.take_zero, List.drop_succ_cons, List.drop_zero, List.nil_append, List.cons_append] at hK
                go_simp
                have hP4 : PB (U.setCell ⟨wb, q, none⟩ (.string sw)) g { z with M0 := m } := HI3.out.hP.other (by have := HLT.out; have := HWB.out; omega) _
                have hW4 : WB (U.setCell ⟨wb, q, none⟩ (.string sw)) wb (md.W.set q (x.l.s ++ x.r.s)) := by rw [HSW.out]; exact HI3.out.hW.set q _
                have hk4 : ∀ j, j ≠ wb → (U.setCell ⟨wb, q, none⟩ (.string sw)).heap[j]? = U.heap[j]? := fun j hj => Below.heap_setCell _ _ _ _ hj
                obtain ⟨n4, hn4, hM4⟩ := HI3.out.hM
                have hmn : mb ≠ wb := by have := HMB.out; omega
                have hM4 := hM4.kept (hk4 mb hmn)
                have hC4 := (hk4 cb (by have := HMB.out; have := HCB.out; omega)).trans HI3.out.hC
                have hR4 := HI3.out.hR.kt (w' := U.setCell ⟨wb, q, none⟩ (.string sw)) (fun b cur hb => hk4 b (fun e => by
                  have h2 := HI3.out.hW; unfold WB at h2; rw [← e, hb] at h2; cases h2))
                have hO4 := HI3.out.hO.kt (w' := U.setCell ⟨wb, q, none⟩ (.string sw)) (fun b cur hb => hk4 b (fun e => by
                  have h2 := HI3.out.hW; unfold WB at h2; rw [← e, hb] at h2; cases h2))
                have hB4 : But g w.heap.size w (U.setCell ⟨wb, q, none⟩ (.string sw)) := HI3.out.hB.above (p := ⟨wb, q, none⟩) (by rw [← HWB.out]; exact Nat.le_refl _) _
                have hz4 : cb + 1 ≤ (U.setCell ⟨wb, q, none⟩ (.string sw)).heap.size := by simpa using HI3.out.hz
                have hcc4 : (U.setCell ⟨wb, q, none⟩ (.string sw)).cell? ⟨cb, 0, none⟩ = some (.map (some mb)) := (cell_of_block hC4 0).trans rfl
                have hnk : n4 < maxLen := by have := HN.out; unfold maxLen; omega
                have hky : keyOf Tryz.prog 9 (.string sw) = some (.string sw.data.toList) := by rw [HSW.out]; exact HKEY.out
                obtain ⟨U4, hU4⟩ : ∃ U4, U4 = U.setCell ⟨wb, q, none⟩ (.string sw) := ⟨_, rfl⟩
                rw [← hU4] at hP4 hW4 hk4 hM4 hC4 hR4 hO4 hB4 hz4 hcc4 ⊢
                refine hK _ _ hcc4 ?_
                have HP4 := Lib.hid hP4
                have HW4 := Lib.hid hW4
                have HC4 := Lib.hid hC4
                have HR4 := Lib.hid hR4
                have HO4 := Lib.hid hO4
                have HB4 := Lib.hid hB4
                have HZ4 := Lib.hid hz4
                clear hK hP4 hW4 hk4 hC4 hR4 hO4 hB4 hz4 hcc4 hU4 hcc hww fw
                refine wpList_put _ rfl _ _ _ 75 rfl Tryz.underlying75 rfl hM4 hnk sw _ (q + 256) rfl rfl hky (by have := HVL.out; omega) ?_
                intro w5 hM5 hg5
                have hks : ∀ j, j < U4.heap.size → j ≠ mb → w5.heap[j]? = U4.heap[j]? := fun j hj hne => hg5.block j hj (fun e => hne (Option.some.inj e))
                have hgm : g < wb := by have := HLT.out; have := HWB.out; omega
                have hmb := HMB.out
                have hcb := HCB.out
                obtain ⟨es, ec, hes⟩ := hM4.block
                have hlt4 : ∀ (b : Nat) (o : Obj), U4.heap[b]? = some o → b < U4.heap.size := fun b o hb => (Array.getElem?_eq_some_iff.1 hb).1
                have hk5 : ∀ (b : Nat) (cur : Array Value) (T : TypeId), U4.heap[b]? = some (Obj.cells cur T (0, 0)) → w5.heap[b]? = U4.heap[b]? := fun b cur T hb => hks b (hlt4 b _ hb) (fun e => by rw [e, hes] at hb; cases hb)
                have hP5 : PB w5 g { z with M0 := m } := (hk5 _ _ _ HP4.out).trans HP4.out
                have hW5 : WB w5 wb (md.W.set q (x.l.s ++ x.r.s)) := (hk5 _ _ _ HW4.out).trans HW4.out
                have hC5 := (hk5 _ _ _ HC4.out).trans HC4.out
                have hR5 := HR4.out.kt (fun b cur hb => hk5 b cur _ hb)
                have hO5 := HO4.out.kt (fun b cur hb => hk5 b cur _ hb)
                have hB5 : But g w.heap.size w w5 := HB4.out.trans ⟨hg5.os, hg5.tape, hg5.output, hg5.size, fun j hj _ => hks j (Nat.lt_of_lt_of_le hj HB4.out.size) (by have := HWB.out; omega)⟩
                have hz5 : cb + 1 ≤ w5.heap.size := Nat.le_trans HZ4.out hg5.size
                have hM5 : MapS w5 mb (n4 + 1) (FM ((x.l.s ++ x.r.s, q + 256) :: md.made)) := by
                  rw [FM_cons, ← HSW.out]; exact hM5
                obtain ⟨v6, w6, hr6, hO6, hB6, -⟩ := mg_app w5 (cb + 1) m md.M ⟨(a : Int), (b : Int), (q : Int) + 256⟩ hO5 hz5 (by rw [HI3.out.hml]; have := HN.out; omega)
                have hown : ∀ i, m.ownBlock = some i → cb + 1 ≤ i ∧ ∃ cur, w5.heap[i]? = some (Obj.cells cur 39 (0, 0)) := fun i hi => by
                  obtain ⟨h1, -, h3⟩ := hO5.block hi
                  exact ⟨h1, h3⟩
                have hk6 : ∀ j, j < w5.heap.size → j ≤ cb → w6.heap[j]? = w5.heap[j]? := fun j hj hjc => hB6.block j hj (Nat.ne_of_lt hj) (fun e => by have := (hown j e.symm).1; omega)
                have hP6 : PB w6 g { z with M0 := m } := (hk6 g hP5.lt (by omega)).trans hP5
                have hW6 : WB w6 wb (md.W.set q (x.l.s ++ x.r.s)) := (hk6 wb (Array.getElem?_eq_some_iff.1 hW5).1 (by omega)).trans hW5
                have hC6 := (hk6 cb (Array.getElem?_eq_some_iff.1 hC5).1 (Nat.le_refl _)).trans hC5
                have hM6 := hM5.kept (hk6 mb hM5.lt (by omega))
                have hR6 := hR5.kt (w' := w6) (fun b cur hb => hB6.block b (Array.getElem?_eq_some_iff.1 hb).1 (Nat.ne_of_lt (Array.getElem?_eq_some_iff.1 hb).1) (fun e => by
                  obtain ⟨-, cur2, h2⟩ := hown b e.symm
                  rw [hb] at h2; cases h2))
                have hB6' : But g w.heap.size w w6 := hB5.trans ⟨hB6.os, hB6.tape, hB6.output, hB6.size, fun j hj _ => hk6 j (Nat.lt_of_lt_of_le hj hB5.size) (by have := HWB.out; omega)⟩
                obtain ⟨gg, nn, cap, hv6, hnn⟩ := hO6.form (by simp)
                rw [hv6] at hr6 hO6
                have hP7 := hP6.setM0 (.slice (some ⟨gg, 0, none⟩) nn cap)
                have hk7 : ∀ j, j ≠ g → (w6.setCell ⟨g, 7, none⟩ (.slice (some ⟨gg, 0, none⟩) nn cap)).heap[j]? = w6.heap[j]? := fun j hj => Below.heap_setCell _ _ _ _ hj
                have hgT : ∀ (b : Nat) (cur : Array Value) (T : TypeId), T ≠ 95 → w6.heap[b]? = some (Obj.cells cur T (0, 0)) → b ≠ g := fun b cur T hT hb e => by
                  have h2 := hP6
                  unfold PB at h2
                  rw [← e, hb] at h2
                  injection h2 with h2
                  injection h2 with _ h2
                  exact hT h2
                have hW7 : WB (w6.setCell ⟨g, 7, none⟩ (.slice (some ⟨gg, 0, none⟩) nn cap)) wb (md.W.set q (x.l.s ++ x.r.s)) := (hk7 wb (by omega)).trans hW6
                have hC7 := (hk7 cb (by omega)).trans hC6
                have hM7 := hM6.kept (hk7 mb (by omega))
                have hR7 := hR6.kt (w' := w6.setCell ⟨g, 7, none⟩ (.slice (some ⟨gg, 0, none⟩) nn cap)) (fun b cur hb => hk7 b (hgT b cur _ (by decide) hb))
                have hO7 := hO6.kt (w' := w6.setCell ⟨g, 7, none⟩ (.slice (some ⟨gg, 0, none⟩) nn cap)) (fun b cur hb => hk7 b (hgT b cur _ (by decide) hb))
                have hB7 := hB6'.setCell 7 (.slice (some ⟨gg, 0, none⟩) nn cap)
                have hgo := HGO.out
                rw [show (((q + 256 : Nat)) : Int) = (q : Int) + 256 by omega] at hgo
                have HEND : Hid (MI w g wb mb cb (cb + 1) z r0 R (k + 1) ⟨md.W.set q (x.l.s ++ x.r.s), (x.l.s ++ x.r.s, q + 256) :: md.made, md.M ++ [⟨(a : Int), (b : Int), (q : Int) + 256⟩]⟩ (.slice (some ⟨gg, 0, none⟩) nn cap) (w6.setCell ⟨g, 7, none⟩ (.slice (some ⟨gg, 0, none⟩) nn cap))) := Lib.hid
                  ⟨hP7, hR7, hW7, by have := HI3.out.hL; simpa using this, ⟨n4 + 1, by omega, hM7⟩, hC7, hO7, by rw [List.length_append, HI3.out.hml]; rfl, hB7, by have := hB6.size; simp; omega, hgo⟩
                have e7 := hP5.c7
                have e8 := hP6.c7
                have f7 := fun j => hP6.free j
                have hNb : N ≤ 4194305 := by have := HN.out; omega
                clear hks hgm hmb hcb hes hlt4 hk5 hP5 hW5 hC5 hR5 hO5 hB5 hz5 hM5 hO6 hB6 hown hk6 hP6 hW6 hC6 hM6 hR6 hB6' hv6 hnn hP7 hk7 hgT hW7 hC7 hM7 hR7 hO7 hB7 hgo hg5 hM4 hmn hnk hky hn4 HI1 HXM HI2 HX2 HI3 HP4 HW4 HC4 HR4 HO4 HB4 HZ4
                go_wp2_with (at_builtin; refine wpList_append_run rfl (.tmp 106) (.tmp 111) 23 23 rfl _ _ rfl rfl _ w6 hr6 ?_; clear hr6)
                exact ⟨⟨k + 1, _, _, by omega, by go_num, HEND.out⟩, by simp only [intOf]; omega⟩
              · have HRR := Lib.hid (HBD.out (.inr (.inr (by rw [show q + 256 - 256 = q by omega]; exact hemp))))
                have g3 : ((textOf (md.W.getD q [])).toList == ([] : List UInt8)) = false := by rw [text_list]; simpa using hemp
                generalize textOf (md.W.getD q []) = y at *
                clear hWW h256 hemp
                go_wp2_with fail
                refine (HPR _ _).mono ?_
                rintro e w2 ⟨rfl, hP2, hb2⟩
                go_wp2_with fail
                refine bodyPost_end (results_none rfl _ _ _) rfl ?_
                rw [HRR.out]
                exact ⟨rfl, HI2.out.hB.trans (hb2.mono HI2.out.hB.size), m, hP2⟩
            · have g2 : decide ((N : Int) ≤ (q : Int)) = true := decide_eq_true (by omega)
              have HRR := Lib.hid (HBD.out (.inr (.inl (by omega))))
              clear hWW h256
              go_wp2_with fail
              refine (HPR _ _).mono ?_
              rintro e w2 ⟨rfl, hP2, hb2⟩
              go_wp2_with fail
              refine bodyPost_end (results_none rfl _ _ _) rfl ?_
              rw [HRR.out]
              exact ⟨rfl, HI2.out.hB.trans (hb2.mono HI2.out.hB.size), m, hP2⟩
    · have hkn : k = N := by omega
      have hPP := HI.out.hP
      have e6 := hPP.c6
      have f0 := fun j => hPP.free j
      have hlen := HI.out.hL
      rw [← HN.out] at hlen
      have hWo := HI.out.hW.own w.heap.size (by rw [← HWB.out]; exact Nat.le_refl _) (by rw [hlen, HN.out]; omega)
      rw [hlen] at hWo
      have hFF := HI.out.hF
      rw [hkn, HN.out, List.drop_length] at hFF
      have HRR : Hid (R = .ok md) := Lib.hid hFF.symm
      have HPP := Lib.hid hPP
      have HWo := Lib.hid hWo
      have g0 : decide ((k : Int) < (N : Int)) = false := decide_eq_false (by omega)
      clear hPP hlen hWo hFF hI hkn
      go_wp2_with fail
      refine bodyPost_end (results_none rfl _ _ _) rfl ?_
      rw [HRR.out]
      have hbt : ∀ B, But g B wr (wr.setCell ⟨g, 6, none⟩ (.slice (some ⟨wb, 0, none⟩) N N)) := fun B => (But.refl g B wr).setCell 6 _
      exact ⟨rfl, HI.out.hB.trans (hbt _), _, m, HPP.out.setW0 _, HWo.out.but (hbt _) (Nat.le_refl _) HLT.out, (HI.out.hO.base_le (by have := HWB.out; have := HMB.out; have := HCB.out; omega)).but (hbt _) (Nat.le_refl _) HLT.out⟩
end Go.Proofs.YtonbfcpbgkpbaaaGreatDoor
end
