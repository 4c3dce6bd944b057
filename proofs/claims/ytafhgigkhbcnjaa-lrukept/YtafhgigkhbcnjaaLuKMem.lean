/- lru's entries and its map in memory, for one kind of keys. -/
import Derived.Test.YtafhgigkhbcnjaaLuMath
import Derived.Test.YtafhgigkhbcnjaaProg
import Derived.ProofKit
import Derived.Below
import Derived.OpenShut
import Derived.WalkSpells
import Derived.WalkLawsBesides
import Derived.Deep.QuietTactic
import Derived.BigQuiet
import Derived.OneCell
import Derived.Lib.SmallJoins
import Derived.Lib.QuietBelow
import Derived.Deep.DeepCutAuto
import Derived.Maps.OwnSet
import Derived.Maps.OwnOps
import Derived.DeepKeys4
import Derived.StillTail
import Derived.Laws.StructEq
namespace Go.Proofs.Ytafhgigkhbcnjaa.LU.K
open Go.RowKit Go.Joins Go.Sort Go.Maps
set_option linter.unusedVariables false
set_option linter.unusedSimpArgs false
set_option maxRecDepth 100000
/-- A key. -/
abbrev κ := Int × Int
/-- A key as a value. -/
def kv (k : κ) : Value := .agg #[.int .i64 k.1, .int .i64 k.2]
/-- An entry's cells. -/
def ec (k : κ) (v : Int) (a b : Nat) : Array Value := #[.int .i64 k.1, .int .i64 k.2, .int .i64 v, .pointer (some ⟨a, 0, none⟩), .pointer (some ⟨b, 0, none⟩)]
/-- The entries: each block's key, value, the one ahead and the one behind. -/
def Es (w : World) (S : List Nat) (key : Nat → κ) (val : Nat → Int) (p q : Nat → Nat) : Prop := ∀ e ∈ S, w.heap[e]? = some (.cells (ec (key e) (val e) (p e) (q e)) 72 (0, 0))
/-- No block but those of F turns. -/
structure Tu (F : Nat → Prop) (w w' : World) : Prop where
  os : w'.os = w.os
  tape : w'.tape = w.tape
  output : w'.output = w.output
  size : w.heap.size ≤ w'.heap.size
  block : ∀ k, k < w.heap.size → ¬ F k → w'.heap[k]? = w.heap[k]?
theorem Tu.refl (F : Nat → Prop) (w : World) : Tu F w w := ⟨rfl, rfl, rfl, Nat.le_refl _, fun _ _ _ => rfl⟩
theorem Tu.trans {F : Nat → Prop} {x y z : World} (h : Tu F x y) (k : Tu F y z) : Tu F x z :=
  ⟨k.os.trans h.os, k.tape.trans h.tape, k.output.trans h.output, Nat.le_trans h.size k.size, fun i hi h1 => (k.block i (Nat.lt_of_lt_of_le hi h.size) h1).trans (h.block i hi h1)⟩
/-- .. where the second step may turn what the first one made. -/
theorem Tu.trans' {F G : Nat → Prop} {x y z : World} (h : Tu F x y) (k : Tu G y z) (hG : ∀ i, G i → F i ∨ x.heap.size ≤ i) : Tu F x z :=
  ⟨k.os.trans h.os, k.tape.trans h.tape, k.output.trans h.output, Nat.le_trans h.size k.size, fun i hi h1 => (k.block i (Nat.lt_of_lt_of_le hi h.size) (fun g => (hG i g).elim h1 (by omega))).trans (h.block i hi h1)⟩
theorem Tu.of_below {F : Nat → Prop} {x y : World} (h : Below x.heap.size x y) : Tu F x y := ⟨h.os, h.tape, h.output, h.size, fun i hi _ => h.block i hi⟩
theorem Tu.set {F : Nat → Prop} {x y : World} (h : Tu F x y) {c o : Nat} (v : Value) (hc : F c) : Tu F x (y.setCell ⟨c, o, none⟩ v) :=
  ⟨h.os, h.tape, h.output, by simpa using h.size, fun i hi h1 => (Below.heap_setCell y ⟨c, o, none⟩ v i (by rintro rfl; exact h1 hc)).trans (h.block i hi h1)⟩
theorem Tu.widen {F G : Nat → Prop} {x y : World} (h : Tu F x y) (hG : ∀ i, F i → G i) : Tu G x y :=
  ⟨h.os, h.tape, h.output, h.size, fun i hi h1 => h.block i hi fun g => h1 (hG i g)⟩
theorem Tu.grown {F : Nat → Prop} {x y z : World} (h : Tu F x y) {b : Nat} (hg : y.grownBy z (some b)) (hb : F b) : Tu F x z :=
  ⟨hg.os.trans h.os, hg.tape.trans h.tape, hg.output.trans h.output, Nat.le_trans h.size hg.size, fun i hi h1 => (hg.block i (Nat.lt_of_lt_of_le hi h.size) (fun e => by cases e; exact h1 hb)).trans (h.block i hi h1)⟩
section
variable {w w' : World} {S : List Nat} {key : Nat → κ} {val : Nat → Int} {p q : Nat → Nat}
theorem Es.lt (h : Es w S key val p q) {e : Nat} (he : e ∈ S) : e < w.heap.size := (Array.getElem?_eq_some_iff.1 (h e he)).1
theorem Es.free (h : Es w S key val p q) {e : Nat} (he : e ∈ S) (j : Nat) : w.frozen? ⟨e, j, none⟩ = false := unfrozen_of_block (h e he) j
theorem Es.value (h : Es w S key val p q) {e : Nat} (he : e ∈ S) : w.cell? ⟨e, 2, none⟩ = some (.int .i64 (val e)) := (cell_of_block (h e he) (i := 2)).trans rfl
theorem Es.ahead (h : Es w S key val p q) {e : Nat} (he : e ∈ S) : w.cell? ⟨e, 3, none⟩ = some (.pointer (some ⟨p e, 0, none⟩)) := (cell_of_block (h e he) (i := 3)).trans rfl
theorem Es.behind (h : Es w S key val p q) {e : Nat} (he : e ∈ S) : w.cell? ⟨e, 4, none⟩ = some (.pointer (some ⟨q e, 0, none⟩)) := (cell_of_block (h e he) (i := 4)).trans rfl
theorem Es.kept (h : Es w S key val p q) (hk : ∀ e ∈ S, w'.heap[e]? = w.heap[e]?) : Es w' S key val p q := fun e he => (hk e he).trans (h e he)
theorem Es.below (h : Es w S key val p q) (hb : Below w.heap.size w w') : Es w' S key val p q := h.kept fun e he => hb.block e (h.lt he)
theorem Es.tu (h : Es w S key val p q) {F : Nat → Prop} (hb : Tu F w w') (hF : ∀ e ∈ S, ¬ F e) : Es w' S key val p q := h.kept fun e he => hb.block e (h.lt he) (hF e he)
theorem Es.sub (h : Es w S key val p q) {S' : List Nat} (hs : ∀ e ∈ S', e ∈ S) : Es w S' key val p q := fun e he => h e (hs e he)
theorem Es.other (h : Es w S key val p q) {c o : Nat} (v : Value) (hc : ∀ e ∈ S, e ≠ c) : Es (w.setCell ⟨c, o, none⟩ v) S key val p q := h.kept fun e he => Below.heap_setCell w ⟨c, o, none⟩ v e (hc e he)
theorem Es.setA (h : Es w S key val p q) (x : Nat) (v : Nat) : Es (w.setCell ⟨x, 3, none⟩ (.pointer (some ⟨v, 0, none⟩))) S key val (upd p x v) q := by
  intro e he
  by_cases hx : e = x
  · subst hx
    rw [block_setCell (h e he), upd_same]
    rfl
  · rw [upd_other _ _ hx]
    exact (Below.heap_setCell w ⟨x, 3, none⟩ _ e hx).trans (h e he)
theorem Es.setB (h : Es w S key val p q) (x : Nat) (v : Nat) : Es (w.setCell ⟨x, 4, none⟩ (.pointer (some ⟨v, 0, none⟩))) S key val p (upd q x v) := by
  intro e he
  by_cases hx : e = x
  · subst hx
    rw [block_setCell (h e he), upd_same]
    rfl
  · rw [upd_other _ _ hx]
    exact (Below.heap_setCell w ⟨x, 4, none⟩ _ e hx).trans (h e he)
theorem Es.setV (h : Es w S key val p q) (x : Nat) (v : Int) : Es (w.setCell ⟨x, 2, none⟩ (.int .i64 v)) S key (upd val x v) p q := by
  intro e he
  by_cases hx : e = x
  · subst hx
    rw [block_setCell (h e he), upd_same]
    rfl
  · rw [upd_other _ _ hx]
    exact (Below.heap_setCell w ⟨x, 2, none⟩ _ e hx).trans (h e he)
/-- A block more. -/
theorem Es.more (h : Es w S key val p q) {x a b : Nat} {k : κ} {v : Int} (hx : w.heap[x]? = some (.cells (ec k v a b) 72 (0, 0))) (hn : x ∉ S) : Es w (x :: S) (upd key x k) (upd val x v) (upd p x a) (upd q x b) := by
  intro e he
  by_cases e1 : e = x
  · subst e1
    simp only [upd_same]
    exact hx
  · simp only [upd_other _ _ e1]
    exact h e ((List.mem_cons.1 he).resolve_left e1)
end
/-- What a map of pointers holds, as data. -/
def RP (v : Value) : Option (DataW Value × List MemPlace) := some (.held v, [])
/-- A pointer to a block, or none. -/
def pv : Option Nat → Value
  | some b => .pointer (some ⟨b, 0, none⟩)
  | none => .pointer none
/-- A key that a map takes. -/
def Kw (k : κ) : Prop := ∃ l, keyOf Try.prog 36 (kv k) = some l
/-- Block b is a map of n keys to entries; f tells what it holds. -/
def MapP (w : World) (b n : Nat) (f : κ → Option Nat) : Prop :=
  ∃ D : DataW Value, w.ownsMap Try.prog 36 RP b n D ∧ Maps.size D = n ∧ ∀ k l, keyOf Try.prog 36 (kv k) = some l → Maps.has D l = (f k).isSome ∧ ∀ z, D.atKey l z = if (f k).isSome then .held (pv (f k)) else z
theorem laidOut : laidOutB Try.prog = true := by kernel_rfl
theorem wideK : (match Try.prog.underlying 36 with | some (.array _ _) | some (.struct _) => true | _ => false) = true := by kernel_rfl
theorem lawK : Keyed Try.prog 36 := Keyed.of_law (deep_law_laid laidOut (m := 3) (by omega) (of_decide_eq_true (by kernel_rfl)) (by kernel_rfl) wideK)
theorem kv_inj (x y : κ) (h : kv x = kv y) : x = y := by
  unfold kv at h
  injection h with h
  injection h with h
  injection h with h1 h
  injection h with h2 h
  injection h1 with _ h1
  injection h2 with _ h2
  exact Prod.ext h1 h2
theorem zeroP (w : World) : (zeroValue 70).run Try.prog w = .ok (.pointer none) w := by kernel_rfl
theorem undM : Try.prog.underlying 73 = some (.map 36 70) := by kernel_rfl
section
variable {w : World} {b n : Nat} {f : κ → Option Nat}
theorem MapP.made (w : World) : MapP (w.alloc (.map #[] 0)) w.heap.size 0 (fun _ => none) :=
  ⟨.map [], World.ownsMap_made _ _ _ _, rfl, fun _ _ _ => ⟨rfl, fun _ => rfl⟩⟩
theorem MapP.kept {w' : World} (h : MapP w b n f) (hk : w'.heap[b]? = w.heap[b]?) : MapP w' b n f := by
  obtain ⟨D, ⟨es, clock, hb, F, hs, hD⟩, h2⟩ := h
  exact ⟨D, ⟨es, clock, hk.trans hb, F, hs, hD⟩, h2⟩
theorem MapP.lt (h : MapP w b n f) : b < w.heap.size := by
  obtain ⟨D, h1, _⟩ := h
  exact h1.lt
theorem MapP.isMap (h : MapP w b n f) : ∃ es clock, w.heap[b]? = some (.map es clock) := by
  obtain ⟨D, ⟨es, clock, hb, _⟩, _⟩ := h
  exact ⟨es, clock, hb⟩
theorem MapP.get (h : MapP w b n f) {k : κ} (hk : Kw k) : (Instr.lookup 73 (.map (some b)) (kv k) false).run Try.prog w = .ok (pv (f k)) w := by
  obtain ⟨D, h1, -, h2⟩ := h
  obtain ⟨l, hl⟩ := hk
  obtain ⟨v, ps, hrun, hv⟩ := h1.lookup lawK undM (zeroP w) (zd := .held (.pointer none)) (zp := []) rfl hl
  obtain ⟨-, e2⟩ := h2 k l hl
  rw [e2] at hv
  rw [hrun]
  unfold RP at hv
  injection hv with hv
  injection hv with hv _
  cases hf : f k with
  | none =>
    rw [hf] at hv
    simp at hv
    rw [hv]; rfl
  | some a =>
    rw [hf] at hv
    simp at hv
    rw [hv]
theorem MapP.len (h : MapP w b n f) (ty : TypeId) : (Builtin.len_ #[73] ty #[.map (some b)]).run Try.prog w = .ok (.int .i64 n) w := by
  obtain ⟨D, h1, h2, -⟩ := h
  rw [h1.len undM ty, h2]
theorem MapP.put (h : MapP w b n f) (hn : n < maxLen) {k : κ} (hk : Kw k) (hf : f k = none) (e : Nat) :
    ∃ w', (Instr.mapUpdate 73 (.map (some b)) (kv k) (.pointer (some ⟨e, 0, none⟩))).run Try.prog w = .ok () w' ∧ MapP w' b (n + 1) (fun y => if y = k then some e else f y) ∧ w.grownBy w' (some b) := by
  obtain ⟨D, h1, h3, h2⟩ := h
  obtain ⟨l, hl⟩ := hk
  obtain ⟨w', hrun, r1, r2⟩ := h1.store lawK undM hn hl (val := .pointer (some ⟨e, 0, none⟩)) (d := .held (pv (some e))) (ps := []) rfl
  obtain ⟨e1, -⟩ := h2 k l hl
  rw [hf] at e1
  refine ⟨w', hrun, ⟨_, r1, ?_, ?_⟩, r2.grown⟩
  · rw [Maps.size_put (h1.tidy lawK), h3, e1]
    rfl
  · intro y l' hy
    by_cases hxy : y = k
    · subst hxy
      have : l' = l := Option.some.inj (hy.symm.trans hl)
      subst this
      have e0 : (fun z => if z = y then some e else f z) y = some e := if_pos rfl
      rw [e0]
      exact ⟨Maps.has_put_same h1.isMap (lawK.key hl) _, fun z => Maps.atKey_put_same h1.isMap (lawK.key hl) _ _⟩
    · have hl' : l' ≠ l := fun e => hxy (kv_inj _ _ (lawK.inj (e ▸ hy) hl))
      have e0 : (fun z => if z = k then some e else f z) y = f y := if_neg hxy
      rw [e0, Maps.has_put_other hl']
      obtain ⟨c1, c2⟩ := h2 y l' hy
      exact ⟨c1, fun z => by rw [Maps.atKey_put_other hl']; exact c2 z⟩
theorem MapP.del (h : MapP w b n f) {k : κ} (hk : Kw k) (hf : (f k).isSome = true) (ty : TypeId) :
    ∃ w', (Builtin.delete_ #[73, 36] ty #[.map (some b), kv k]).run Try.prog w = .ok (.tuple #[]) w' ∧ MapP w' b (n - 1) (fun y => if y = k then none else f y) ∧ w.grownBy w' (some b) := by
  obtain ⟨D, h1, h3, h2⟩ := h
  obtain ⟨l, hl⟩ := hk
  obtain ⟨w', hrun, r1, r2⟩ := h1.drop lawK undM hl ty
  obtain ⟨e1, -⟩ := h2 k l hl
  rw [hf] at e1
  have hsz : Maps.size (D.del l) = n - 1 := by
    have := Maps.size_del (h1.tidy lawK) (k := l)
    rw [e1, h3] at this
    simp at this
    omega
  refine ⟨w', hrun, ⟨D.del l, ?_, hsz, ?_⟩, r2.grown⟩
  · obtain ⟨es, clock, a1, a2, a3, a4⟩ := r1
    refine ⟨es, clock, a1, a2, ?_, a4⟩
    rw [← hsz, a4]
    simp [Maps.size, length_sorted]
  · intro y l' hy
    by_cases hxy : y = k
    · subst hxy
      have : l' = l := Option.some.inj (hy.symm.trans hl)
      subst this
      have e0 : (fun z => if z = y then none else f z) y = none := if_pos rfl
      rw [e0]
      exact ⟨Maps.has_del_same, fun z => Maps.atKey_del_same z⟩
    · have hl' : l' ≠ l := fun e => hxy (kv_inj _ _ (lawK.inj (e ▸ hy) hl))
      have e0 : (fun z => if z = k then none else f z) y = f y := if_neg hxy
      rw [e0, Maps.has_del_other hl']
      obtain ⟨c1, c2⟩ := h2 y l' hy
      exact ⟨c1, fun z => by rw [Maps.atKey_del_other hl']; exact c2 z⟩
end
end Go.Proofs.Ytafhgigkhbcnjaa.LU.K
