/- What is owned side by side: which blocks turn, and what lies apart from them. -/
import Derived.Test.YtmfbeelnhihlaaaHPLawMath
namespace Go.Proofs.Ytmfbeelnhihlaaa.HP
open Go.RowKit Go.Joins Go.Sort
set_option linter.unusedVariables false
set_option linter.unusedSimpArgs false
/-- The blocks of a heap; of a list. -/
def hS (g : Nat) (v : Value) : Nat → Prop := fun k => k = g ∨ v.ownBlock = some k
def vS (v : Value) : Nat → Prop := fun k => v.ownBlock = some k
def Dj (S T : Nat → Prop) : Prop := ∀ k, S k → T k → False
theorem Dj.symm {S T : Nat → Prop} (h : Dj S T) : Dj T S := fun k a b => h k b a
/-- No block but those of S turns; those of S' are of S, or new. -/
structure Tu (S S' : Nat → Prop) (w w' : World) : Prop where
  os : w'.os = w.os
  tape : w'.tape = w.tape
  output : w'.output = w.output
  size : w.heap.size ≤ w'.heap.size
  block : ∀ k, k < w.heap.size → ¬ S k → w'.heap[k]? = w.heap[k]?
  moved : ∀ b, S' b → S b ∨ w.heap.size ≤ b
theorem HeapAt.in_ {w : World} {base g : Nat} {v : Value} {L : List El} (h : HeapAt w base g v L) : ∀ k, hS g v k → base ≤ k ∧ k < w.heap.size := by
  rintro k (rfl | hk)
  · exact ⟨h.low, h.lt⟩
  · exact World.ownsRow.lt h.row k hk
theorem RowE.in_ {w : World} {base : Nat} {v : Value} {L : List El} (h : RowE w base v L) : ∀ k, vS v k → base ≤ k ∧ k < w.heap.size := fun k hk => World.ownsRow.lt h k hk
theorem Tu.of_tn {g : Nat} {v v' : Value} {w w' : World} (h : Tn g v v' w w') : Tu (hS g v) (hS g v') w w' :=
  ⟨h.os, h.tape, h.output, h.size, fun k hk hn => h.block k hk (fun e => hn (.inl e)) (fun e => hn (.inr e.symm)), fun b hb => by
    rcases hb with rfl | hb
    · exact .inl (.inl rfl)
    · rcases h.moved b hb with h1 | h1
      · exact .inl (.inr h1)
      · exact .inr h1⟩
theorem Tu.of_below {S : Nat → Prop} {w w' : World} (h : Below w.heap.size w w') : Tu S S w w' :=
  ⟨h.os, h.tape, h.output, h.size, fun k hk _ => h.block k hk, fun b hb => .inl hb⟩
theorem Tu.of_append {u u' : Value} {w w' : World} (h : w.grownBy w' u.ownBlock) (hm : Moved u u' w.heap.size) : Tu (vS u) (vS u') w w' :=
  ⟨h.os, h.tape, h.output, h.size, fun k hk hn => h.block k hk (fun e => hn e.symm), fun b hb => hm b hb⟩
theorem Tu.heap {S S' : Nat → Prop} {w w' : World} {base g : Nat} {v : Value} {L : List El} (h : Tu S S' w w') (hA : HeapAt w base g v L) (d : Dj S (hS g v)) : HeapAt w' base g v L := by
  refine ⟨hA.low, (h.block g hA.lt (fun e => d g e (.inl rfl))).trans hA.at_, ⟨hA.row.1, ?_⟩, hA.ne⟩
  rcases hA.row.2 with h0 | ⟨b, cap, cur, rfl, hb, hh, r⟩
  · exact .inl h0
  · exact .inr ⟨b, cap, cur, rfl, hb, (h.block b (Array.getElem?_eq_some_iff.1 hh).1 (fun e => d b e (.inr rfl))).trans hh, r⟩
theorem Tu.row {S S' : Nat → Prop} {w w' : World} {base : Nat} {v : Value} {L : List El} (h : Tu S S' w w') (hA : RowE w base v L) (d : Dj S (vS v)) : RowE w' base v L := by
  refine ⟨hA.1, ?_⟩
  rcases hA.2 with h0 | ⟨b, cap, cur, rfl, hb, hh, r⟩
  · exact .inl h0
  · exact .inr ⟨b, cap, cur, rfl, hb, (h.block b (Array.getElem?_eq_some_iff.1 hh).1 (fun e => d b e rfl)).trans hh, r⟩
theorem Tu.dj {S S' T : Nat → Prop} {w w' : World} (h : Tu S S' w w') (d : Dj S T) (hT : ∀ k, T k → k < w.heap.size) : Dj S' T := by
  intro k a b
  rcases h.moved k a with h1 | h1
  · exact d k h1 b
  · have := hT k b
    omega
theorem Tu.below {S S' : Nat → Prop} {w w' : World} {base : Nat} (h : Tu S S' w w') (hS : ∀ k, S k → base ≤ k) (hb : base ≤ w.heap.size) : Below base w w' :=
  ⟨h.os, h.tape, h.output, h.size, fun k hk => h.block k (by omega) (fun e => by have := hS k e; omega)⟩
theorem HeapAt.le {w : World} {base base' g : Nat} {v : Value} {L : List El} (h : HeapAt w base g v L) (hb : base' ≤ base) : HeapAt w base' g v L :=
  ⟨Nat.le_trans hb h.low, h.at_, ownsRow_le h.row hb, h.ne⟩
theorem RowE.sps {w : World} {base : Nat} {a : Option Addr} {n cap : Nat} {L : List El} (h : RowE w base (.slice a n cap) L) : SPS w a L := by
  rcases ownsRow_forms h with ⟨h1, h0⟩ | ⟨b, q, h1⟩
  · exact .inl (List.length_eq_zero_iff.1 h0)
  · cases h1
    refine .inr ⟨b, 0, rfl, fun i x hx => ?_⟩
    have := h.at' hx
    rw [Nat.zero_add]
    exact this
end Go.Proofs.Ytmfbeelnhihlaaa.HP
