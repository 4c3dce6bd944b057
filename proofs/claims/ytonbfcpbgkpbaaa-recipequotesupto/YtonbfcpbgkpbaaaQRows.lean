/- Rows of one's own of whatever kind; which block turns when one is lengthened. -/
import Derived.Test.YtonbfcpbgkpbaaaQMem
import Derived.Test.YtonbfcpbgkpbaaaAppRun
import Derived.Deep.AppendSrc
import Derived.Laws.OwnMore
import Derived.Maps.AppendAt
import Derived.Lib.SmallJoins
namespace Go.Proofs.Ytonbfcpbgkpbaaa
open Go.RowKit Go.Sort Go.Joins
set_option linter.unusedVariables false
/-- The value v owns the things l, of k cells each, of type T. -/
def OwnG {α : Type} (T : TypeId) (k : Nat) (enc : α → List Value) (w : World) (base : Nat) (v : Value) (l : List α) : Prop :=
  w.ownsRow base T k v l.length (l.flatMap enc)
/-- All old blocks but g and ob stand as they stood. -/
structure Bu (g : Nat) (ob : Option Nat) (B : Nat) (w w' : World) : Prop where
  os : w'.os = w.os
  tape : w'.tape = w.tape
  output : w'.output = w.output
  size : w.heap.size ≤ w'.heap.size
  block : ∀ k, k < B → k ≠ g → some k ≠ ob → w'.heap[k]? = w.heap[k]?
theorem Bu.refl (g : Nat) (ob : Option Nat) (B : Nat) (w : World) : Bu g ob B w w := ⟨rfl, rfl, rfl, Nat.le_refl _, fun _ _ _ _ => rfl⟩
theorem Bu.of_but {g B : Nat} {ob : Option Nat} {w w' : World} (h : But g B w w') : Bu g ob B w w' := ⟨h.1, h.2.1, h.2.2.1, h.2.2.2.1, fun k hk hg _ => h.2.2.2.2 k hk hg⟩
theorem Bu.but {g B : Nat} {w w' : World} (h : Bu g none B w w') : But g B w w' := ⟨h.os, h.tape, h.output, h.size, fun k hk hg => h.block k hk hg (by simp)⟩
theorem Bu.trans {g B : Nat} {ob : Option Nat} {a b c : World} (h : Bu g ob B a b) (h' : Bu g ob B b c) : Bu g ob B a c :=
  ⟨h'.os.trans h.os, h'.tape.trans h.tape, h'.output.trans h.output, Nat.le_trans h.size h'.size, fun k hk hg ho => (h'.block k hk hg ho).trans (h.block k hk hg ho)⟩
theorem Bu.mono {g B B' : Nat} {ob : Option Nat} {a b : World} (h : Bu g ob B a b) (hB : B' ≤ B) : Bu g ob B' a b := ⟨h.os, h.tape, h.output, h.size, fun k hk => h.block k (by omega)⟩
theorem Bu.setCell {g B : Nat} {ob : Option Nat} {a b : World} (h : Bu g ob B a b) (o : Nat) (v : Value) : Bu g ob B a (b.setCell ⟨g, o, none⟩ v) :=
  h.trans (.of_but ((But.refl _ _ _).setCell o v))
/-- Rows that lie apart from what has turned stay. -/
theorem OwnG.bu {α : Type} {T : TypeId} {k : Nat} {enc : α → List Value} {w w' : World} {base g B : Nat} {ob : Option Nat} {v : Value} {l : List α} (h : OwnG T k enc w base v l) (hb : Bu g ob B w w') (hB : w.heap.size ≤ B) (hg : g < base) (ho : ∀ i, v.ownBlock = some i → some i ≠ ob) : OwnG T k enc w' base v l := by
  refine ⟨h.1, ?_⟩
  rcases h.2 with h0 | ⟨b, cap, cur, hv, hbb, hh, r⟩
  · exact .inl h0
  · refine .inr ⟨b, cap, cur, hv, hbb, ?_, r⟩
    rw [hb.block b (Nat.lt_of_lt_of_le (Array.getElem?_eq_some_iff.1 hh).1 hB) (by omega) (ho b (by rw [hv]; rfl))]
    exact hh
theorem OwnG.but {α : Type} {T : TypeId} {k : Nat} {enc : α → List Value} {w w' : World} {base g B : Nat} {v : Value} {l : List α} (h : OwnG T k enc w base v l) (hb : But g B w w') (hB : w.heap.size ≤ B) (hg : g < base) : OwnG T k enc w' base v l :=
  h.bu (ob := none) (.of_but hb) hB hg (fun i _ => by simp)
theorem OwnG.below {α : Type} {T : TypeId} {k : Nat} {enc : α → List Value} {w w' : World} {base B : Nat} {v : Value} {l : List α} (h : OwnG T k enc w base v l) (hb : Below B w w') (hB : w.heap.size ≤ B) : OwnG T k enc w' base v l := by
  refine ⟨h.1, ?_⟩
  rcases h.2 with h0 | ⟨b, cap, cur, hv, hbb, hh, r⟩
  · exact .inl h0
  · refine .inr ⟨b, cap, cur, hv, hbb, ?_, r⟩
    rw [hb.block b (Nat.lt_of_lt_of_le (Array.getElem?_eq_some_iff.1 hh).1 hB)]
    exact hh
theorem OwnG.nil {α : Type} (T : TypeId) (k : Nat) (enc : α → List Value) (w : World) (base : Nat) : OwnG T k enc w base (.slice none 0 0) [] := World.ownsRow_nil w base T k
theorem OwnG.block {α : Type} {T : TypeId} {k : Nat} {enc : α → List Value} {w : World} {base : Nat} {v : Value} {l : List α} (h : OwnG T k enc w base v l) {i : Nat} (hi : v.ownBlock = some i) : base ≤ i ∧ i < w.heap.size ∧ ∃ cur, w.heap[i]? = some (.cells cur T (0, 0)) := by
  rcases h.2 with ⟨hv, _⟩ | ⟨b, cap, cur, hv, hbb, hh, r⟩
  · rw [hv] at hi; cases hi
  · rw [hv] at hi
    cases hi
    exact ⟨hbb, (Array.getElem?_eq_some_iff.1 hh).1, cur, hh⟩
theorem OwnG.form {α : Type} {T : TypeId} {k : Nat} {enc : α → List Value} {w : World} {base : Nat} {v : Value} {l : List α} (h : OwnG T k enc w base v l) (hl : 0 < l.length) : ∃ gg n cap, v = .slice (some ⟨gg, 0, none⟩) n cap ∧ n = l.length := by
  obtain ⟨g, cap, rfl⟩ := ownsRow_form h hl
  exact ⟨g, _, cap, rfl, rfl⟩
/-- What becomes of a value that is lengthened: its block or a new one. -/
def Moved (v v' : Value) (B : Nat) : Prop := ∀ b, v'.ownBlock = some b → v.ownBlock = some b ∨ B ≤ b
theorem flat_length {α : Type} {k : Nat} {enc : α → List Value} (hk : ∀ x, (enc x).length = k) (l : List α) : (l.flatMap enc).length = l.length * k := by
  induction l with
  | nil => simp
  | cons x l ih => rw [List.flatMap_cons, List.length_append, hk, ih, List.length_cons, Nat.add_mul, Nat.one_mul, Nat.add_comm]
theorem run_own_g {α : Type} (S T : TypeId) (i0 : TypeInfo) (z : Value) (k by_ : Nat) (enc : α → List Value) (hk : ∀ x, (enc x).length = k) (hk0 : 0 < k) (hone : ∀ x, ∀ v ∈ enc x, v.oneCell' = true) (hS : Try.prog.underlying S = some (.slice T)) (hi : Try.prog.info? T = some i0) (hz0 : i0.zero = some z) (hz1 : i0.size = k) (hz2 : i0.bytes = by_) (hzc : z.cells.size = k)
    (W : World) (base : Nat) (v : Value) (l : List α) (x : α) (b cap : Nat) (hown : OwnG T k enc W base v l) (hx : W.heap[b]? = some (.cells (enc x).toArray T (0, 0))) (hb : base ≤ W.heap.size) (hsz : (l.length + 1) * by_ ≤ 140737488355328) (hl : l.length + 1 ≤ 9223372036854775807) :
    ∃ v' w', (Builtin.append_ #[S, S] S #[v, .slice (some ⟨b, 0, none⟩) 1 cap]).run Try.prog W = .ok v' w' ∧ OwnG T k enc w' base v' (l ++ [x]) ∧ W.grownBy w' v.ownBlock ∧ Moved v v' W.heap.size := by
  have hc : ∀ j u, (enc x)[j]? = some u → W.cell? ((⟨b, 0, none⟩ : Addr).add j) = some u := by
    intro j u hu
    rw [cell_add, Nat.zero_add, cell_of_block hx]
    simpa using hu
  have hl4 : (enc x).length = 1 * k := by rw [hk, Nat.one_mul]
  have hend : ∀ (v' : Value) (w' : World), w'.ownsRow base T k v' (l.length + 1) (l.flatMap enc ++ enc x) → OwnG T k enc w' base v' (l ++ [x]) := by
    intro v' w' h
    unfold OwnG
    rw [List.length_append, List.flatMap_append, show [x].flatMap enc = enc x by simp]
    exact h
  rcases hown.2 with ⟨rfl, h0⟩ | ⟨g, cp, cur, rfl, hg, hh, hn, hm, hcs, ht⟩
  · obtain ⟨v', w', h1, h2, h3, _⟩ := run_append_own (P := Try.prog) W W.heap.size S S T i0 z k by_ hS hi hz0 hz1 hz2 hzc hk0 (.slice none 0 0) l.length (l.flatMap enc) ⟨hown.1, .inl ⟨rfl, h0⟩⟩ ⟨b, 0, none⟩ 1 cap (enc x) hl4 hc (hone x) (by unfold maxLen; omega) hsz (Nat.le_refl _)
    refine ⟨v', w', h1, hend v' w' (ownsRow_le h2 hb), h3, fun i hi => .inr ?_⟩
    rcases h2.2 with ⟨hv, _⟩ | ⟨b2, cap2, cur2, hv, hbb, _⟩
    · rw [hv] at hi; cases hi
    · rw [hv] at hi; cases hi; exact hbb
  · by_cases hroom : l.length + 1 ≤ cp
    · obtain ⟨w', h1, h2, h3⟩ := run_append_fits (P := Try.prog) W base S S T i0 k hS hi hz1 g l.length cp (l.flatMap enc) hown ⟨b, 0, none⟩ 1 cap (enc x) hl4 hc (hone x) hroom
      exact ⟨_, w', h1, hend _ w' h2, h3, fun i hi => .inl hi⟩
    · obtain ⟨v', w', h1, h2, h3⟩ := run_append_arg_grows (P := Try.prog) W S S T i0 z k by_ hS hi hz0 hz1 hz2 hzc hk0 ⟨g, 0, none⟩ l.length cp (l.flatMap enc) (flat_length hk l) (fun j u hu => by
        have hj : j < l.length * k := by
          rw [← flat_length hk l]
          exact (List.getElem?_eq_some_iff.1 hu).1
        rw [cell_add, Nat.zero_add, World.ownsRow.cellAt hown j hj, hu]) ⟨b, 0, none⟩ 1 cap (enc x) hl4 hc (by omega) (by unfold maxLen; omega) hsz
      refine ⟨v', w', h1, hend v' w' (ownsRow_le h2 hb), ?_, fun i hi => .inr ?_⟩
      · exact ⟨h3.os, h3.tape, h3.output, h3.size, fun j hj _ => h3.block j hj (by simp)⟩
      · rcases h2.2 with ⟨hv, _⟩ | ⟨b2, cap2, cur2, hv, hbb, _⟩
        · rw [hv] at hi; cases hi
        · rw [hv] at hi; cases hi; exact hbb
end Go.Proofs.Ytonbfcpbgkpbaaa
