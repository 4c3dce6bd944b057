import Derived.Test.YtonbfcpbgkpbaabJ12
import Derived.Test.YtonbfcpbgkpbaabJ3
import Derived.Deep.AppendSrc
import Derived.Deep.QuietTactic
import Derived.BigQuiet
import Derived.Deep.RegionLaw
import Derived.Deep.DeepCutAuto
import Derived.Deep.LoopGhost
import Derived.WalkSpells
import Derived.WalkLawsBesides
import Derived.Test.YtonbfcpbgkpbaabRows
import Derived.WalkKit
import Derived.ProofKit
import Derived.Below
import Derived.OpenShut
import Derived.Lib.SmallJoins
import Derived.Laws.CopyOwn
import Derived.Laws.MakeOwn
import Derived.Laws.OwnMore
import Derived.Deep.DeepMust
import Derived.Lib.UnsafeStr
import Derived.Lib.BufferWrite
section
/- Books of memory: what all kinds share: blocks that have turned, blocks by type, a value's block if it has room. -/
namespace Go.Proofs.Ytonbfcpbgkpbaab
open Go.RowKit Go.Sort
open Go.Joins
/-- No block but those of S has turned. -/
structure Only (w w' : World) (S : Nat → Prop) : Prop where
  os : w'.os = w.os
  tape : w'.tape = w.tape
  output : w'.output = w.output
  size : w.heap.size ≤ w'.heap.size
  block : ∀ k, k < w.heap.size → ¬ S k → w'.heap[k]? = w.heap[k]?
theorem Only.refl (w : World) (S : Nat → Prop) : Only w w S := ⟨rfl, rfl, rfl, Nat.le_refl _, fun _ _ _ => rfl⟩
theorem Only.trans {a b c : World} {S S1 : Nat → Prop} (h : Only a b S) (k : Only b c S1) (hs : ∀ i, i < a.heap.size → S1 i → S i) : Only a c S :=
  ⟨k.os.trans h.os, k.tape.trans h.tape, k.output.trans h.output, Nat.le_trans h.size k.size, fun i hi hn =>
    (k.block i (Nat.lt_of_lt_of_le hi h.size) (fun h1 => hn (hs i hi h1))).trans (h.block i hi hn)⟩
theorem Only.wider {w w' : World} {S T : Nat → Prop} (h : Only w w' S) (hs : ∀ i, i < w.heap.size → S i → T i) : Only w w' T := ⟨h.os, h.tape, h.output, h.size, fun k hk hn => h.block k hk (fun h1 => hn (hs k hk h1))⟩
theorem Only.below {w w' : World} {S : Nat → Prop} {base : Nat} (h : Only w w' S) (hS : ∀ i, S i → base ≤ i) (hb : base ≤ w.heap.size) : Below base w w' :=
  ⟨h.os, h.tape, h.output, h.size, fun k hk => h.block k (by omega) (fun h1 => by have := hS k h1; omega)⟩
theorem Only.ofGrown {w w' : World} {S : Nat → Prop} {row : Option Nat} (h : w.grownBy w' row) (hS : ∀ i, row = some i → S i) : Only w w' S :=
  ⟨h.os, h.tape, h.output, h.size, fun k hk hn => h.block k hk (fun e => hn (hS k e.symm))⟩
theorem Only.ofBelow {w w' : World} {S : Nat → Prop} (h : Below w.heap.size w w') : Only w w' S := ⟨h.os, h.tape, h.output, h.size, fun k hk _ => h.block k hk⟩
theorem Only.alloc (w : World) (S : Nat → Prop) (o : Obj) : Only w (w.alloc o) S := ⟨rfl, rfl, rfl, by simp, fun k hk _ => Below.heap_alloc _ _ _ hk⟩
theorem Only.set {w : World} {S : Nat → Prop} (b o : Nat) (v : Value) (h : S b) : Only w (w.setCell ⟨b, o, none⟩ v) S :=
  ⟨rfl, rfl, rfl, by simp [World.setCell], fun k _ hn => Below.heap_setCell _ _ _ _ (by intro e; exact hn (by rw [e]; exact h))⟩
theorem Only.drewN {w w' : World} {S : Nat → Prop} (h : Only w w' S) (k : Nat) : Only w (w'.drewN k) S := ⟨h.os, h.tape, h.output, h.size, h.block⟩
/-- The same memory, whatever has been drawn. -/
structure Like (w w' : World) : Prop where
  heap : w'.heap = w.heap
  os : w'.os = w.os
  tape : w'.tape = w.tape
  output : w'.output = w.output
theorem Like.refl (w : World) : Like w w := ⟨rfl, rfl, rfl, rfl⟩
theorem Like.drew {w w' : World} (h : Like w w') : Like w w'.drew := ⟨h.heap, h.os, h.tape, h.output⟩
theorem Like.only {w w' : World} (h : Like w w') (S : Nat → Prop) : Only w w' S := ⟨h.os, h.tape, h.output, by rw [h.heap]; exact Nat.le_refl _, fun k _ _ => by rw [h.heap]⟩
/-- Two blocks of unlike types are two. -/
theorem apart_types {w : World} {g g' : Nat} {c c' : Array Value} {t t' : TypeId} {f f' : Nat × Nat} (h : w.heap[g]? = some (.cells c t f)) (h' : w.heap[g']? = some (.cells c' t' f')) (ht : t ≠ t') : g ≠ g' := by
  intro e; subst e; rw [h] at h'; simp at h'; exact ht h'.2.1
/-- A value's block, if it has room in it. -/
def ob : Value → Option Nat
  | .slice (some a) _ c => if c = 0 then none else some a.block
  | _ => none
theorem ob_some {a : Addr} {n c : Nat} (h : 0 < c) : ob (.slice (some a) n c) = some a.block := if_neg (by omega)
theorem ob_zero {a : Option Addr} {n : Nat} : ob (.slice a n 0) = none := by cases a <;> rfl
/-- The block is of that type. -/
def TyB (w : World) (t : TypeId) (k : Nat) : Prop := ∃ cur, w.heap[k]? = some (.cells cur t (0, 0))
theorem TyB.ne {w : World} {t t' : TypeId} {k k' : Nat} (h : TyB w t k) (h' : TyB w t' k') (ht : t ≠ t') : k ≠ k' := by
  obtain ⟨c, h⟩ := h
  obtain ⟨c', h'⟩ := h'
  exact apart_types h h' ht
/-- append, as one step of a region that draws, by what its run leaves. -/
theorem step_append_ex {P : Program} {ops : Array Oper} {o : Oper} {a : Act} {w : World} {K : Act → World → Prop} {Q : Exit → Act → World → Prop} {E : Prop}
    (hg : o.guard = none) (s x : Operand) (t tx : TypeId) (hop : o.op = Op.call { callee := Callee.builtin Builtin.append, args := #[s, x], argTypes := #[t, tx] }) (v y : Value) (hs : a.eval s = v) (hx : a.eval x = y) (R : Value → World → Prop)
    (hr : ∃ v' w', (Builtin.append_ #[t, tx] o.type #[v, y]).run P w = .ok v' w' ∧ R v' w') (hK : ∀ v' w', R v' w' → K (a.put o.dst v') w') :
    if Region.wanted o (yielded ops a.tmps) = true then Oper.wp P o a w K Q else E := by
  have hw : Region.wanted o (yielded ops a.tmps) = true := by simp [Region.wanted, hg]
  rw [if_pos hw]
  obtain ⟨v', w', hrun, hR⟩ := hr
  unfold Oper.wp
  simp [execOp, hop, resolve, invoke, builtin, hs, hx, hrun, Result.andThen]
  exact hK v' w' hR
end Go.Proofs.Ytonbfcpbgkpbaab
end
section
/- Lists of one's own, with room. -/
namespace Go.Proofs.Ytonbfcpbgkpbaab
open Go.RowKit Go.Sort Go.Joins
set_option linter.unusedVariables false
/-- A list of words in memory of one's own, spare room and all. -/
def WPR (w : World) (lo : Nat) (a : Option Addr) (c : Nat) (l : List ByteArray) : Prop := (c = 0 ∧ l = []) ∨ ∃ g cur, a = some ⟨g, 0, none⟩ ∧ lo ≤ g ∧ w.heap[g]? = some (.cells cur 9 (0, 0)) ∧ cur.size = c * 1 ∧ ∀ (i : Nat) (x : ByteArray), l[i]? = some x → cur[i]? = some (.string x)
theorem WPR.below {w w' : World} {lo c : Nat} {a : Option Addr} {l : List ByteArray} (h : WPR w lo a c l) (hb : Below w.heap.size w w') : WPR w' lo a c l := by
  rcases h with h | ⟨g, cur, h1, h2, h3, h4⟩
  · exact .inl h
  · exact .inr ⟨g, cur, h1, h2, (hb.block g (Array.getElem?_eq_some_iff.1 h3).1).trans h3, h4⟩
theorem WPR.low {w : World} {lo lo' c : Nat} {a : Option Addr} {l : List ByteArray} (h : WPR w lo a c l) (hl : lo' ≤ lo) : WPR w lo' a c l := by
  rcases h with h | ⟨g, cur, h1, h2, h3⟩
  · exact .inl h
  · exact .inr ⟨g, cur, h1, by omega, h3⟩
theorem WPR.away {w : World} {lo c : Nat} {a : Option Addr} {l : List ByteArray} (h : WPR w lo a c l) {b o : Nat} (hb : b < lo) (v : Value) : WPR (w.setCell ⟨b, o, none⟩ v) lo a c l := by
  rcases h with h | ⟨g, cur, h1, h2, h3, h4⟩
  · exact .inl h
  · exact .inr ⟨g, cur, h1, h2, (Below.heap_setCell w ⟨b, o, none⟩ v g (fun e => by have e' : g = b := e; omega)).trans h3, h4⟩
theorem WPR.sp {w : World} {lo c : Nat} {a : Option Addr} {l : List ByteArray} (h : WPR w lo a c l) : WSP w a l := by
  rcases h with ⟨-, h⟩ | ⟨g, cur, rfl, h2, h3, h4, h5⟩
  · exact .inl h
  · exact .inr ⟨g, 0, rfl, fun i x hx => by rw [cell_of_block h3, Nat.zero_add]; exact h5 i x hx⟩
/-- A list of words of one's own. -/
structure OwnW (w : World) (lo : Nat) (a : Option Addr) (c : Nat) (l : List ByteArray) : Prop where
  le : l.length ≤ c
  cap : c ≤ 9223372036854775807
  row : WPR w lo a c l
theorem OwnW.below {w w' : World} {lo c : Nat} {a : Option Addr} {l : List ByteArray} (h : OwnW w lo a c l) (hb : Below w.heap.size w w') : OwnW w' lo a c l := ⟨h.le, h.cap, h.row.below hb⟩
theorem OwnW.low {w : World} {lo lo' c : Nat} {a : Option Addr} {l : List ByteArray} (h : OwnW w lo a c l) (hl : lo' ≤ lo) : OwnW w lo' a c l := ⟨h.le, h.cap, h.row.low hl⟩
theorem OwnW.away {w : World} {lo c : Nat} {a : Option Addr} {l : List ByteArray} (h : OwnW w lo a c l) {b o : Nat} (hb : b < lo) (v : Value) : OwnW (w.setCell ⟨b, o, none⟩ v) lo a c l := ⟨h.le, h.cap, h.row.away hb v⟩
/-- A list of merges in memory of one's own, spare room and all. -/
def MPR (w : World) (lo : Nat) (a : Option Addr) (c : Nat) (l : List Mg) : Prop := (c = 0 ∧ l = []) ∨ ∃ g cur, a = some ⟨g, 0, none⟩ ∧ lo ≤ g ∧ w.heap[g]? = some (.cells cur 47 (0, 0)) ∧ cur.size = c * 3 ∧ ∀ (i : Nat) (x : Mg), l[i]? = some x → cur[i * 3]? = some (.int .i64 x.l) ∧ cur[i * 3 + 1]? = some (.int .i64 x.r) ∧ cur[i * 3 + 2]? = some (.int .i64 x.i)
theorem MPR.below {w w' : World} {lo c : Nat} {a : Option Addr} {l : List Mg} (h : MPR w lo a c l) (hb : Below w.heap.size w w') : MPR w' lo a c l := by
  rcases h with h | ⟨g, cur, h1, h2, h3, h4⟩
  · exact .inl h
  · exact .inr ⟨g, cur, h1, h2, (hb.block g (Array.getElem?_eq_some_iff.1 h3).1).trans h3, h4⟩
theorem MPR.low {w : World} {lo lo' c : Nat} {a : Option Addr} {l : List Mg} (h : MPR w lo a c l) (hl : lo' ≤ lo) : MPR w lo' a c l := by
  rcases h with h | ⟨g, cur, h1, h2, h3⟩
  · exact .inl h
  · exact .inr ⟨g, cur, h1, by omega, h3⟩
theorem MPR.away {w : World} {lo c : Nat} {a : Option Addr} {l : List Mg} (h : MPR w lo a c l) {b o : Nat} (hb : b < lo) (v : Value) : MPR (w.setCell ⟨b, o, none⟩ v) lo a c l := by
  rcases h with h | ⟨g, cur, h1, h2, h3, h4⟩
  · exact .inl h
  · exact .inr ⟨g, cur, h1, h2, (Below.heap_setCell w ⟨b, o, none⟩ v g (fun e => by have e' : g = b := e; omega)).trans h3, h4⟩
theorem MPR.sp {w : World} {lo c : Nat} {a : Option Addr} {l : List Mg} (h : MPR w lo a c l) : MSP w a l := by
  rcases h with ⟨-, h⟩ | ⟨g, cur, rfl, h2, h3, h4, h5⟩
  · exact .inl h
  · exact .inr ⟨g, 0, rfl, fun i x hx => ⟨by rw [cell_of_block h3, Nat.zero_add]; exact (h5 i x hx).1, by rw [cell_of_block h3, Nat.zero_add]; exact (h5 i x hx).2.1, by rw [cell_of_block h3, Nat.zero_add]; exact (h5 i x hx).2.2⟩⟩
/-- A list of merges of one's own. -/
structure OwnM (w : World) (lo : Nat) (a : Option Addr) (c : Nat) (l : List Mg) : Prop where
  le : l.length ≤ c
  cap : c ≤ 9223372036854775807
  row : MPR w lo a c l
theorem OwnM.below {w w' : World} {lo c : Nat} {a : Option Addr} {l : List Mg} (h : OwnM w lo a c l) (hb : Below w.heap.size w w') : OwnM w' lo a c l := ⟨h.le, h.cap, h.row.below hb⟩
theorem OwnM.low {w : World} {lo lo' c : Nat} {a : Option Addr} {l : List Mg} (h : OwnM w lo a c l) (hl : lo' ≤ lo) : OwnM w lo' a c l := ⟨h.le, h.cap, h.row.low hl⟩
theorem OwnM.away {w : World} {lo c : Nat} {a : Option Addr} {l : List Mg} (h : OwnM w lo a c l) {b o : Nat} (hb : b < lo) (v : Value) : OwnM (w.setCell ⟨b, o, none⟩ v) lo a c l := ⟨h.le, h.cap, h.row.away hb v⟩
/-- A list of spans in memory of one's own, spare room and all. -/
def SPRc (w : World) (lo : Nat) (a : Option Addr) (c : Nat) (l : List Sp) : Prop := (c = 0 ∧ l = []) ∨ ∃ g cur, a = some ⟨g, 0, none⟩ ∧ lo ≤ g ∧ w.heap[g]? = some (.cells cur 50 (0, 0)) ∧ cur.size = c * 2 ∧ ∀ (i : Nat) (x : Sp), l[i]? = some x → cur[i * 2]? = some (.int .i32 x.lo) ∧ cur[i * 2 + 1]? = some (.int .i32 x.hi)
theorem SPRc.below {w w' : World} {lo c : Nat} {a : Option Addr} {l : List Sp} (h : SPRc w lo a c l) (hb : Below w.heap.size w w') : SPRc w' lo a c l := by
  rcases h with h | ⟨g, cur, h1, h2, h3, h4⟩
  · exact .inl h
  · exact .inr ⟨g, cur, h1, h2, (hb.block g (Array.getElem?_eq_some_iff.1 h3).1).trans h3, h4⟩
theorem SPRc.low {w : World} {lo lo' c : Nat} {a : Option Addr} {l : List Sp} (h : SPRc w lo a c l) (hl : lo' ≤ lo) : SPRc w lo' a c l := by
  rcases h with h | ⟨g, cur, h1, h2, h3⟩
  · exact .inl h
  · exact .inr ⟨g, cur, h1, by omega, h3⟩
theorem SPRc.away {w : World} {lo c : Nat} {a : Option Addr} {l : List Sp} (h : SPRc w lo a c l) {b o : Nat} (hb : b < lo) (v : Value) : SPRc (w.setCell ⟨b, o, none⟩ v) lo a c l := by
  rcases h with h | ⟨g, cur, h1, h2, h3, h4⟩
  · exact .inl h
  · exact .inr ⟨g, cur, h1, h2, (Below.heap_setCell w ⟨b, o, none⟩ v g (fun e => by have e' : g = b := e; omega)).trans h3, h4⟩
theorem SPRc.sp {w : World} {lo c : Nat} {a : Option Addr} {l : List Sp} (h : SPRc w lo a c l) : SPS w a l := by
  rcases h with ⟨-, h⟩ | ⟨g, cur, rfl, h2, h3, h4, h5⟩
  · exact .inl h
  · exact .inr ⟨g, 0, rfl, fun i x hx => ⟨by rw [cell_of_block h3, Nat.zero_add]; exact (h5 i x hx).1, by rw [cell_of_block h3, Nat.zero_add]; exact (h5 i x hx).2⟩⟩
/-- A list of spans of one's own. -/
structure OwnS (w : World) (lo : Nat) (a : Option Addr) (c : Nat) (l : List Sp) : Prop where
  le : l.length ≤ c
  cap : c ≤ 9223372036854775807
  row : SPRc w lo a c l
theorem OwnS.below {w w' : World} {lo c : Nat} {a : Option Addr} {l : List Sp} (h : OwnS w lo a c l) (hb : Below w.heap.size w w') : OwnS w' lo a c l := ⟨h.le, h.cap, h.row.below hb⟩
theorem OwnS.low {w : World} {lo lo' c : Nat} {a : Option Addr} {l : List Sp} (h : OwnS w lo a c l) (hl : lo' ≤ lo) : OwnS w lo' a c l := ⟨h.le, h.cap, h.row.low hl⟩
theorem OwnS.away {w : World} {lo c : Nat} {a : Option Addr} {l : List Sp} (h : OwnS w lo a c l) {b o : Nat} (hb : b < lo) (v : Value) : OwnS (w.setCell ⟨b, o, none⟩ v) lo a c l := ⟨h.le, h.cap, h.row.away hb v⟩
theorem cellsW_one (l : List ByteArray) : ∀ v ∈ cellsW l, v.oneCell' = true := by
  intro v hv
  simp [cellsW] at hv
  obtain ⟨c, _, rfl⟩ := hv
  rfl
theorem cellsM_one (l : List Mg) : ∀ v ∈ cellsM l, v.oneCell' = true := by
  intro v hv
  simp [cellsM] at hv
  obtain ⟨c, _, h⟩ := hv
  rcases h with rfl | rfl | rfl <;> rfl
theorem infoW : (Try.prog.info? 9).map (fun i => (i.zero, i.size, i.bytes)) = some (some (.string ⟨#[]⟩), 1, 16) := by kernel_rfl
theorem infoM : (Try.prog.info? 47).map (fun i => (i.zero, i.size, i.bytes)) = some (some (.agg #[.int .i64 0, .int .i64 0, .int .i64 0]), 3, 24) := by kernel_rfl
theorem cellsS_one (l : List Sp) : ∀ v ∈ cellsS l, v.oneCell' = true := by
  intro v hv
  simp [cellsS] at hv
  obtain ⟨c, _, h⟩ := hv
  rcases h with rfl | rfl <;> rfl
theorem info26 : (Try.prog.info? 50).map (fun i => (i.zero, i.size, i.bytes)) = some (some (.agg #[.int .i32 0, .int .i32 0]), 2, 8) := by kernel_rfl
end Go.Proofs.Ytonbfcpbgkpbaab
end
