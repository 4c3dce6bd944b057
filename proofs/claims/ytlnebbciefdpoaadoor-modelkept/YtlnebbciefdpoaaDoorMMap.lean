/- Maps to numbers, with keys of one kind: what they hold, as a function. -/
import Derived.Test.YtlnebbciefdpoaaDoorMView
import Derived.Maps.OwnSet
import Derived.Maps.OwnOps
import Derived.WideKeyPair
namespace Go.Proofs.YtlnebbciefdpoaaDoor
open Go.RowKit Go.Sort Go.Joins Go.Maps
section
variable {α : Type} {K t : TypeId} {kv : α → Value} {w : World} {b n : Nat} {f : α → Option Int}
/-- Block b is a map of n entries whose keys are of type K; f tells what it holds at the key that kv says. -/
def MapI (w : World) (K : TypeId) (kv : α → Value) (b n : Nat) (f : α → Option Int) : Prop :=
  ∃ D : DataW Unit, w.ownsMap Tryd.prog K (plainElem Tryd.prog 3) b n D ∧ Maps.size D = n ∧ ∀ x l, keyOf Tryd.prog K (kv x) = some l → Maps.has D l = (f x).isSome ∧ ∀ a, f x = some a → ∀ z, D.atKey l z = .lit (.int .i64 a)
theorem MapI.made (w : World) (K : TypeId) (kv : α → Value) : MapI (w.alloc (.map #[] 0)) K kv w.heap.size 0 (fun _ => none) :=
  ⟨.map [], World.ownsMap_made _ _ _ _, rfl, fun _ _ _ => ⟨rfl, fun _ h => by cases h⟩⟩
theorem MapI.kept {w' : World} (h : MapI w K kv b n f) (hk : w'.heap[b]? = w.heap[b]?) : MapI w' K kv b n f := by
  obtain ⟨D, ⟨es, clock, hb, F, hs, hD⟩, h2⟩ := h
  exact ⟨D, ⟨es, clock, hk.trans hb, F, hs, hD⟩, h2⟩
theorem MapI.lt (h : MapI w K kv b n f) : b < w.heap.size := by
  obtain ⟨D, h1, _⟩ := h
  exact h1.lt
theorem MapI.below {w' : World} {B : Nat} (h : MapI w K kv b n f) (hb : Below B w w') (hB : b < B) : MapI w' K kv b n f := h.kept (hb.block b hB)
theorem wf_nat (k : Nat) (h : k ≤ 9223372036854775807) : (Lit.int .i64 (k : Int)).wf = true := WalkArith.wf_i64 (by omega)
theorem zero3 (w : World) : (zeroValue 3).run Tryd.prog w = .ok (.int .i64 0) w := by kernel_rfl
theorem und3 : Tryd.prog.underlying 3 = some (.int .i64) := by kernel_rfl
theorem MapI.look (h : MapI w K kv b n f) (law : Keyed Tryd.prog K) (ht : Tryd.prog.underlying t = some (.map K 3)) {x : α} {l : Lit} (hk : keyOf Tryd.prog K (kv x) = some l) :
    (Instr.lookup t (.map (some b)) (kv x) true).run Tryd.prog w = .ok (.tuple #[.int .i64 ((f x).getD 0), .bool (f x).isSome]) w := by
  obtain ⟨D, h1, -, h2⟩ := h
  obtain ⟨v, ps, hrun, hv⟩ := h1.look_ok law ht (zero3 w) (zd := .lit (.int .i64 0)) (zp := []) (plainElem_int und3 (by decide)) hk
  obtain ⟨e1, e2⟩ := h2 x l hk
  obtain ⟨c, rfl, hc, -⟩ := plainElem_int_inv und3 hv
  rw [hrun, e1]
  have hc := congrArg Prod.fst hc
  simp only at hc
  cases hf : f x with
  | some a =>
    rw [e2 a hf] at hc
    simp at hc
    rw [hc]; rfl
  | none =>
    rw [hf] at e1
    rw [Maps.atKey_of_not_has e1] at hc
    simp at hc
    rw [← hc]; rfl
theorem MapI.get (h : MapI w K kv b n f) (law : Keyed Tryd.prog K) (ht : Tryd.prog.underlying t = some (.map K 3)) {x : α} {l : Lit} (hk : keyOf Tryd.prog K (kv x) = some l) :
    (Instr.lookup t (.map (some b)) (kv x) false).run Tryd.prog w = .ok (.int .i64 ((f x).getD 0)) w := by
  obtain ⟨D, h1, -, h2⟩ := h
  obtain ⟨c, hrun, hc, -⟩ := h1.lookup_int law ht und3 (zero3 w) hk
  obtain ⟨e1, e2⟩ := h2 x l hk
  rw [hrun]
  cases hf : f x with
  | some a =>
    rw [e2 a hf] at hc
    simp at hc
    rw [hc]; rfl
  | none =>
    rw [hf] at e1
    rw [Maps.atKey_of_not_has e1] at hc
    simp at hc
    rw [← hc]; rfl
theorem MapI.store [DecidableEq α] (h : MapI w K kv b n f) (law : Keyed Tryd.prog K) (hinj : ∀ x y, kv x = kv y → x = y) (ht : Tryd.prog.underlying t = some (.map K 3)) (hn : n < maxLen) {x : α} {l : Lit} (hk : keyOf Tryd.prog K (kv x) = some l) (hx : f x = none) {a : Int} (ha : (Lit.int .i64 a).wf = true) :
    ∃ w', (Instr.mapUpdate t (.map (some b)) (kv x) (.int .i64 a)).run Tryd.prog w = .ok () w' ∧ MapI w' K kv b (n + 1) (fun y => if y = x then some a else f y) ∧ w.grownBy w' (some b) := by
  obtain ⟨D, h1, h3, h2⟩ := h
  obtain ⟨w', hrun, r1, r2⟩ := h1.store law ht hn hk (plainElem_int (H := Unit) und3 ha)
  obtain ⟨e1, -⟩ := h2 x l hk
  rw [hx] at e1
  refine ⟨w', hrun, ⟨_, r1, ?_, ?_⟩, r2.grown⟩
  · rw [Maps.size_put (h1.tidy law), h3, e1]
    rfl
  · intro y l' hy
    by_cases hxy : y = x
    · subst hxy
      have : l' = l := Option.some.inj (hy.symm.trans hk)
      subst this
      have e0 : (fun z => if z = y then some a else f z) y = some a := if_pos rfl
      rw [e0]
      refine ⟨Maps.has_put_same h1.isMap (law.key hk) _, fun c hc z => ?_⟩
      obtain rfl := Option.some.inj hc
      exact Maps.atKey_put_same h1.isMap (law.key hk) _ _
    · have hl : l' ≠ l := fun e => hxy (hinj _ _ (law.inj (e ▸ hy) hk))
      have e0 : (fun z => if z = x then some a else f z) y = f y := if_neg hxy
      rw [e0, Maps.has_put_other hl]
      obtain ⟨c1, c2⟩ := h2 y l' hy
      exact ⟨c1, fun c hc z => by rw [Maps.atKey_put_other hl]; exact c2 c hc z⟩
theorem MapI.len (h : MapI w K kv b n f) (ht : Tryd.prog.underlying t = some (.map K 3)) (ty : TypeId) : (Builtin.len_ #[t] ty #[.map (some b)]).run Tryd.prog w = .ok (.int .i64 n) w := by
  obtain ⟨D, h1, h2, -⟩ := h
  rw [h1.len ht ty, h2]
end
section
variable {α : Type} {K : TypeId} {kv : α → Value} (w : World) {b n : Nat} {f : α → Option Int} {ops : Array Oper} {rest : List Oper} {o : Oper} {a : Act} {Q : Exit → Act → World → Prop}
/-- At the operation 'v, ok := m[k]'. -/
theorem wpList_look (hg : o.guard = none) (m x : Operand) (t : TypeId) (hop : o.op = Op.lookup t m x true) (law : Keyed Tryd.prog K) (ht : Tryd.prog.underlying t = some (.map K 3))
    (hm : a.eval m = .map (some b)) (h : MapI w K kv b n f) (y : α) (l : Lit) (hx : a.eval x = kv y) (hk : keyOf Tryd.prog K (kv y) = some l)
    (hK : wpList Tryd.prog ops Q rest (a.put o.dst (.tuple #[.int .i64 ((f y).getD 0), .bool (f y).isSome])) w) :
    wpList Tryd.prog ops Q (o :: rest) a w := by
  refine wpList_plain hg fun K' hK' => ?_
  unfold Oper.wp
  simp [execOp, hop, hm, hx, h.look law ht hk, Result.andThen]
  exact hK' _ _ (by simpa using hK)
theorem wpList_get (hg : o.guard = none) (m x : Operand) (t : TypeId) (hop : o.op = Op.lookup t m x false) (law : Keyed Tryd.prog K) (ht : Tryd.prog.underlying t = some (.map K 3))
    (hm : a.eval m = .map (some b)) (h : MapI w K kv b n f) (y : α) (l : Lit) (hx : a.eval x = kv y) (hk : keyOf Tryd.prog K (kv y) = some l)
    (hK : wpList Tryd.prog ops Q rest (a.put o.dst (.int .i64 ((f y).getD 0))) w) :
    wpList Tryd.prog ops Q (o :: rest) a w := by
  refine wpList_plain hg fun K' hK' => ?_
  unfold Oper.wp
  simp [execOp, hop, hm, hx, h.get law ht hk, Result.andThen]
  exact hK' _ _ (by simpa using hK)
theorem wpList_store [DecidableEq α] (hg : o.guard = none) (m x v : Operand) (t : TypeId) (hop : o.op = Op.mapUpdate t m x v) (law : Keyed Tryd.prog K) (hinj : ∀ x y, kv x = kv y → x = y) (ht : Tryd.prog.underlying t = some (.map K 3))
    (hm : a.eval m = .map (some b)) (h : MapI w K kv b n f) (hn : n < maxLen) (y : α) (l : Lit) (c : Int) (hx : a.eval x = kv y) (hv : a.eval v = .int .i64 c) (hk : keyOf Tryd.prog K (kv y) = some l) (hy : f y = none) (hc : (Lit.int .i64 c).wf = true)
    (hK : ∀ w', MapI w' K kv b (n + 1) (fun z => if z = y then some c else f z) → w.grownBy w' (some b) → wpList Tryd.prog ops Q rest (a.put o.dst undef) w') :
    wpList Tryd.prog ops Q (o :: rest) a w := by
  refine wpList_plain hg fun K' hK' => ?_
  obtain ⟨w', hrun, r1, r2⟩ := h.store law hinj ht hn hk hy hc
  unfold Oper.wp
  simp [execOp, hop, hm, hx, hv, hrun, Result.andThen]
  exact hK' _ _ (hK w' r1 r2)
end
end Go.Proofs.YtlnebbciefdpoaaDoor
