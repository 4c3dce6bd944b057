/- A row of one's own is lengthened by one thing: append's run. -/
import Derived.Test.YtmfbeelnhihlaaaRows
import Derived.Test.YtmfbeelnhihlaaaAppRun
import Derived.WalkKit
import Derived.Below
import Derived.Deep.AppendSrc
import Derived.Laws.OwnMore
import Derived.Maps.AppendAt
import Derived.Lib.SmallJoins
namespace Go.Proofs.Ytmfbeelnhihlaaa
open Go.RowKit Go.Sort Go.Joins
set_option linter.unusedVariables false
/-- What becomes of a value that is lengthened: its block or a new one. -/
def Moved (v v' : Value) (B : Nat) : Prop := ∀ b, v'.ownBlock = some b → v.ownBlock = some b ∨ B ≤ b
theorem flat_length {α : Type} {k : Nat} {enc : α → List Value} (hk : ∀ x, (enc x).length = k) (l : List α) : (l.flatMap enc).length = l.length * k := by
  induction l with
  | nil => simp
  | cons x l ih => rw [List.flatMap_cons, List.length_append, hk, ih, List.length_cons, Nat.add_mul, Nat.one_mul, Nat.add_comm]
theorem run_own_g {α : Type} (S T : TypeId) (i0 : TypeInfo) (z : Value) (k by_ : Nat) (enc : α → List Value) (hk : ∀ x, (enc x).length = k) (hk0 : 0 < k) (hone : ∀ x, ∀ v ∈ enc x, v.oneCell' = true) (hS : Try.prog.underlying S = some (.slice T)) (hi : Try.prog.info? T = some i0) (hz0 : i0.zero = some z) (hz1 : i0.size = k) (hz2 : i0.bytes = by_) (hzc : z.cells.size = k)
    (W : World) (base : Nat) (v : Value) (l : List α) (x : α) (b cap : Nat) (hown : W.ownsRow base T k v l.length (l.flatMap enc)) (hx : W.heap[b]? = some (.cells (enc x).toArray T (0, 0))) (hb : base ≤ W.heap.size) (hsz : (l.length + 1) * by_ ≤ 140737488355328) (hl : l.length + 1 ≤ 9223372036854775807) :
    ∃ v' w', (Builtin.append_ #[S, S] S #[v, .slice (some ⟨b, 0, none⟩) 1 cap]).run Try.prog W = .ok v' w' ∧ w'.ownsRow base T k v' (l ++ [x]).length ((l ++ [x]).flatMap enc) ∧ W.grownBy w' v.ownBlock ∧ Moved v v' W.heap.size := by
  have hc : ∀ j u, (enc x)[j]? = some u → W.cell? ((⟨b, 0, none⟩ : Addr).add j) = some u := by
    intro j u hu
    rw [cell_add, Nat.zero_add, cell_of_block hx]
    simpa using hu
  have hl4 : (enc x).length = 1 * k := by rw [hk, Nat.one_mul]
  have hend : ∀ (v' : Value) (w' : World), w'.ownsRow base T k v' (l.length + 1) (l.flatMap enc ++ enc x) → w'.ownsRow base T k v' (l ++ [x]).length ((l ++ [x]).flatMap enc) := by
    intro v' w' h
    rw [List.length_append, List.flatMap_append, show [x].flatMap enc = enc x by simp]
    exact h
  rcases hown.2 with ⟨rfl, h0⟩ | ⟨g, cp, cur, rfl, hg, hh, hn, hm, hcs, ht⟩
  · obtain ⟨v', w', h1, h2, h3, _⟩ := run_append_own (P := Try.prog) W W.heap.size S S T i0 z k by_ hS hi hz0 hz1 hz2 hzc hk0 (.slice none 0 0) l.length (l.flatMap enc) ⟨hown.1, .inl ⟨rfl, h0⟩⟩ ⟨b, 0, none⟩ 1 cap (enc x) hl4 hc (hone x) (by unfold maxLen; omega) hsz (Nat.le_refl _)
    refine ⟨v', w', h1, hend v' w' (ownsRow_le h2 hb), h3, fun i hi => .inr ?_⟩
    rcases h2.2 with ⟨hv, _⟩ | ⟨b2, cap2, cur2, hv, hbb, _⟩
    · rw [hv] at hi; cases hi
    · rw [hv] at hi; cases hi; exact hbb
  · by_cases hroom : l.length + 1 ≤ cp
    · obtain ⟨w', h1, h2, h3⟩ := run_append_fits (P := Try.prog) W base S S T i0 k hS hi hz1 g l.length cp (l.flatMap enc) hown ⟨b, 0, none⟩ 1 cap (enc x) hl4 hc (hone x) hroom
      exact ⟨_, w', h1, hend _ w' h2, h3, fun i hi => .inl hi⟩
    · obtain ⟨v', w', h1, h2, h3⟩ := run_append_arg_grows (P := Try.prog) W S S T i0 z k by_ hS hi hz0 hz1 hz2 hzc hk0 ⟨g, 0, none⟩ l.length cp (l.flatMap enc) (flat_length hk l) (fun j u hu => by
        have hj : j < l.length * k := by
          rw [← flat_length hk l]
          exact (List.getElem?_eq_some_iff.1 hu).1
        rw [cell_add, Nat.zero_add, World.ownsRow.cellAt hown j hj, hu]) ⟨b, 0, none⟩ 1 cap (enc x) hl4 hc (by omega) (by unfold maxLen; omega) hsz
      refine ⟨v', w', h1, hend v' w' (ownsRow_le h2 hb), ?_, fun i hi => .inr ?_⟩
      · exact ⟨h3.os, h3.tape, h3.output, h3.size, fun j hj _ => h3.block j hj (by simp)⟩
      · rcases h2.2 with ⟨hv, _⟩ | ⟨b2, cap2, cur2, hv, hbb, _⟩
        · rw [hv] at hi; cases hi
        · rw [hv] at hi; cases hi; exact hbb
end Go.Proofs.Ytmfbeelnhihlaaa
