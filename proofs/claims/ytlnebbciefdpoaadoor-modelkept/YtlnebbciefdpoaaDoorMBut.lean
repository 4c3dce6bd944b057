/- All old blocks but one stand as they stood; blocks of cells are kept. -/
import Derived.Test.YtlnebbciefdpoaaDoorMClone
import Derived.Test.YtlnebbciefdpoaaDoorMCopied
import Derived.Test.YtlnebbciefdpoaaDoorMMap
namespace Go.Proofs.YtlnebbciefdpoaaDoor
open Go.RowKit Go.Sort Go.Joins
set_option linter.unusedVariables false
def But (b B : Nat) (W W' : World) : Prop := W'.os = W.os ∧ W'.tape = W.tape ∧ W'.output = W.output ∧ W.heap.size ≤ W'.heap.size ∧ ∀ k, k < B → k ≠ b → W'.heap[k]? = W.heap[k]?
theorem But.refl (b B : Nat) (W : World) : But b B W W := ⟨rfl, rfl, rfl, Nat.le_refl _, fun _ _ _ => rfl⟩
theorem But.of_below {b B : Nat} {W W' : World} (h : Below B W W') : But b B W W' := ⟨h.os, h.tape, h.output, h.size, fun k hk _ => h.block k hk⟩
theorem But.trans {b B : Nat} {X Y Z : World} (h : But b B X Y) (k : But b B Y Z) : But b B X Z := ⟨k.1.trans h.1, k.2.1.trans h.2.1, k.2.2.1.trans h.2.2.1, Nat.le_trans h.2.2.2.1 k.2.2.2.1, fun i hi hb => (k.2.2.2.2 i hi hb).trans (h.2.2.2.2 i hi hb)⟩
theorem But.setCell {b B : Nat} {W W' : World} (h : But b B W W') (j : Nat) (v : Value) : But b B W (W'.setCell ⟨b, j, none⟩ v) := ⟨h.1, h.2.1, h.2.2.1, by simpa using h.2.2.2.1, fun k hk hb => (Below.heap_setCell _ _ _ k hb).trans (h.2.2.2.2 k hk hb)⟩
theorem But.below {b B B' : Nat} {W W' : World} (h : But b B W W') (hB : B' ≤ B) (hb : B' ≤ b) : Below B' W W' := ⟨h.1, h.2.1, h.2.2.1, h.2.2.2.1, fun k hk => h.2.2.2.2 k (by omega) (by omega)⟩
theorem But.size {b B : Nat} {W W' : World} (h : But b B W W') : W.heap.size ≤ W'.heap.size := h.2.2.2.1
theorem But.mono {b B B' : Nat} {W W' : World} (h : But b B W W') (hB : B' ≤ B) : But b B' W W' := ⟨h.1, h.2.1, h.2.2.1, h.2.2.2.1, fun k hk hb => h.2.2.2.2 k (by omega) hb⟩
theorem But.grown {b B : Nat} {W W' W'' : World} (h : But b B W W') (hg : W'.grownBy W'' (some b)) (hB : B ≤ W'.heap.size) : But b B W W'' :=
  ⟨hg.os.trans h.1, hg.tape.trans h.2.1, hg.output.trans h.2.2.1, Nat.le_trans h.2.2.2.1 hg.size, fun k hk hb => (hg.block k (by omega) (fun e => hb (Option.some.inj e))).trans (h.2.2.2.2 k hk hb)⟩
theorem But.above {b B : Nat} {W W' : World} (h : But b B W W') {p : Addr} (hp : B ≤ p.block) (v : Value) : But b B W (W'.setCell p v) := ⟨h.1, h.2.1, h.2.2.1, by simpa using h.2.2.2.1, fun k hk hb => (Below.heap_setCell _ _ _ k (by omega)).trans (h.2.2.2.2 k hk hb)⟩
/-- Blocks of cells stand as they stood. -/
def CK (w w' : World) : Prop := ∀ (k : Nat) cur t z, w.heap[k]? = some (.cells cur t z) → w'.heap[k]? = some (.cells cur t z)
theorem MapI.ne {α : Type} {K : TypeId} {kv : α → Value} {w : World} {b n k : Nat} {f : α → Option Int} {cur t z} (h : MapI w K kv b n f) (hk : w.heap[k]? = some (.cells cur t z)) : k ≠ b := by
  rintro rfl
  obtain ⟨D, ⟨es, clock, hb, -⟩, -⟩ := h
  rw [hk] at hb
  cases hb
theorem But.ck {α : Type} {K : TypeId} {kv : α → Value} {w w' : World} {b n : Nat} {f : α → Option Int} (h : But b w.heap.size w w') (hm : MapI w K kv b n f) : CK w w' :=
  fun k cur t z hk => (h.2.2.2.2 k (Array.getElem?_eq_some_iff.1 hk).1 (hm.ne hk)).trans hk
theorem CK.of_below {w w' : World} (h : Below w.heap.size w w') : CK w w' := fun k cur t z hk => (h.block k (Array.getElem?_eq_some_iff.1 hk).1).trans hk
theorem CK.trans {w w' w'' : World} (h : CK w w') (h' : CK w' w'') : CK w w'' := fun k cur t z hk => h' k cur t z (h k cur t z hk)
theorem WPR.ck {w w' : World} {lo c : Nat} {a : Option Addr} {l : List ByteArray} (h : WPR w lo a c l) (hk : CK w w') : WPR w' lo a c l := by
  rcases h with h | ⟨g, cur, h1, h2, h3, h4⟩
  · exact .inl h
  · exact .inr ⟨g, cur, h1, h2, hk _ _ _ _ h3, h4⟩
theorem MPR.ck {w w' : World} {lo c : Nat} {a : Option Addr} {l : List Mg} (h : MPR w lo a c l) (hk : CK w w') : MPR w' lo a c l := by
  rcases h with h | ⟨g, cur, h1, h2, h3, h4⟩
  · exact .inl h
  · exact .inr ⟨g, cur, h1, h2, hk _ _ _ _ h3, h4⟩
theorem SPRc.ck {w w' : World} {lo c : Nat} {a : Option Addr} {l : List Sp} (h : SPRc w lo a c l) (hk : CK w w') : SPRc w' lo a c l := by
  rcases h with h | ⟨g, cur, h1, h2, h3, h4⟩
  · exact .inl h
  · exact .inr ⟨g, cur, h1, h2, hk _ _ _ _ h3, h4⟩
theorem SPR.ck {w w' : World} {lo : Nat} {a : Option Addr} {l : List Sp} (h : SPR w lo a l) (hk : CK w w') : SPR w' lo a l := by
  rcases h with h | ⟨g, cur, h1, h2, h3, h4⟩
  · exact .inl h
  · exact .inr ⟨g, cur, h1, h2, hk _ _ _ _ h3, h4⟩
theorem OwnD.ck {w w' : World} {lo : Nat} {a0 : Option Addr} {c0 : Nat} {a1 : Option Addr} {c1 : Nat} {a2 : Option Addr} {c2 : Nat} {a3 : Option Addr} {c3 : Nat} {a4 : Option Addr} {c4 : Nat} {ws : List ByteArray} {ms : List Mg} {A B C : List Sp} (h : OwnD w lo a0 c0 a1 c1 a2 c2 a3 c3 a4 c4 ws ms A B C) (hk : CK w w') : OwnD w' lo a0 c0 a1 c1 a2 c2 a3 c3 a4 c4 ws ms A B C := by
  obtain ⟨h1, h2, s3, s4, e1, e2, p1, p2, p3, p4, p5⟩ := h
  exact ⟨⟨h1.le, h1.cap, h1.row.ck hk⟩, ⟨h2.le, h2.cap, h2.row.ck hk⟩, s3, s4, e1, e2, ⟨p1.le, p1.cap, p1.row.ck hk⟩, p2, ⟨p3.le, p3.cap, p3.row.ck hk⟩, p4, ⟨p5.le, p5.cap, p5.row.ck hk⟩⟩
theorem OwnT.ck {w w' : World} {lo g : Nat} {A B C : List Sp} (h : OwnT w lo g A B C) (hk : CK w w') : OwnT w' lo g A B C := by
  obtain ⟨ad, cp, h1, h2, h3⟩ := h
  exact ⟨ad, cp, h1, hk _ _ _ _ h2, fun j hj => ⟨(h3 j hj).1, (h3 j hj).2.1, (h3 j hj).2.2.ck hk⟩⟩
theorem cell_ck {w w' : World} {p : Addr} {v : Value} (h : w.cell? p = some v) (hk : CK w w') : w'.cell? p = some v := by
  rw [← h]
  refine World.cell?_of_block ?_
  unfold World.cell? at h
  cases hb : w.heap[p.block]? with
  | none => rw [hb] at h; cases h
  | some o =>
    cases o with
    | cells cur t z => exact hk _ _ _ _ hb
    | _ => rw [hb] at h; cases h
theorem WSP.ck {w w' : World} {a : Option Addr} {l : List ByteArray} (h : WSP w a l) (hk : CK w w') : WSP w' a l := by
  rcases h with h | ⟨b, off, rfl, hc⟩
  · exact .inl h
  · exact .inr ⟨b, off, rfl, fun i x hx => cell_ck (hc i x hx) hk⟩
theorem MSP.ck {w w' : World} {a : Option Addr} {l : List Mg} (h : MSP w a l) (hk : CK w w') : MSP w' a l := by
  rcases h with h | ⟨b, off, rfl, hc⟩
  · exact .inl h
  · exact .inr ⟨b, off, rfl, fun i x hx => ⟨cell_ck (hc i x hx).1 hk, cell_ck (hc i x hx).2.1 hk, cell_ck (hc i x hx).2.2 hk⟩⟩
end Go.Proofs.YtlnebbciefdpoaaDoor
