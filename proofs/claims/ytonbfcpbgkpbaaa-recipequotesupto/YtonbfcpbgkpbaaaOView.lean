/- What a list of bytes in memory is, and that it stays so while new memory is made. -/
import Derived.WalkKit
import Derived.ProofKit
import Derived.Below
import Derived.OpenShut
namespace Go.Proofs.Ytonbfcpbgkpbaaa.Oc
set_option maxRecDepth 100000
open Go.RowKit
/-- The slice that begins at 'a' holds the bytes l. -/
def BS (w : World) (a : Option Addr) (l : List UInt8) : Prop :=
  l = [] ∨ ∃ b off, a = some ⟨b, off, none⟩ ∧ ∀ j, j < l.length → w.cell? ⟨b, off + j, none⟩ = some (.int .u8 ((l.getD j 0).toNat : Int))
theorem BS.below {w w' : World} {a : Option Addr} {l : List UInt8} (h : BS w a l) (hb : Below w.heap.size w w') : BS w' a l := by
  rcases h with h | ⟨b, off, rfl, hc⟩
  · exact .inl h
  · refine .inr ⟨b, off, rfl, fun j hj => ?_⟩
    have h1 := hc j hj
    rw [hb.cell (World.block_lt_of_cell? w _ h1)]
    exact h1
theorem BS.nil (w : World) (a : Option Addr) : BS w a [] := .inl rfl
theorem BS.take {w : World} {a : Option Addr} {l : List UInt8} (h : BS w a l) (n : Nat) : BS w a (l.take n) := by
  rcases h with rfl | ⟨b, off, rfl, hc⟩
  · exact .inl (by simp)
  · refine .inr ⟨b, off, rfl, fun j hj => ?_⟩
    have hj' : j < l.length := by simp at hj; omega
    have hjn : j < n := by simp at hj; omega
    rw [hc j hj']
    simp [List.getD, hjn]
/-- A list's cells. -/
def cellsOf (l : List UInt8) : List Value := l.map fun c => .int .u8 (c.toNat : Int)
theorem cellsOf_get (l : List UInt8) (j : Nat) (h : j < l.length) : (cellsOf l)[j]? = some (.int .u8 ((l.getD j 0).toNat : Int)) := by
  simp [cellsOf, List.getD, List.getElem?_eq_getElem h]
theorem BS.new (w : World) (l : List UInt8) (t : TypeId) : BS (w.alloc (.cells (cellsOf l).toArray t)) (some ⟨w.heap.size, 0, none⟩) l := by
  refine .inr ⟨_, _, rfl, fun j hj => ?_⟩
  rw [Nat.zero_add, World.cell?_alloc_at _ _ _ _ rfl]
  simpa using cellsOf_get l j hj
/-- The same of a constant text's bytes, which bear the run-time's mark behind them. -/
theorem BS.marked (w : World) (l : List UInt8) (t : TypeId) (fr : Nat × Nat) : BS (w.alloc (.cells (cellsOf l).toArray t fr)) (some ⟨w.heap.size, 0, none⟩) l := by
  refine .inr ⟨_, _, rfl, fun j hj => ?_⟩
  rw [Nat.zero_add, World.cell?_alloc_mark]
  simpa using cellsOf_get l j hj
/-- A slice of bytes that came in, as the frame of a statement's proof opens it. -/
def IsRow (k : IntKind) (w : World) (a : Option Addr) (len cap : Nat) (zs : List Int) : Prop :=
  (a = none ∧ len = 0 ∧ cap = 0 ∧ zs = []) ∨
  ∃ x, a = some x ∧ len ≤ cap ∧ cap ≤ maxLen ∧ zs.length = cap ∧ (∀ i, i < zs.length → w.cell? (x.add i) = some (.int k (zs.getD i 0))) ∧ ∀ n ∈ zs, (Lit.int k n).wf = true
theorem IsRow.view {w : World} {a : Option Addr} {len cap : Nat} {zs : List Int} (h : IsRow .u8 w a len cap zs) : ∃ l : List UInt8, len = l.length ∧ l.length ≤ cap ∧ cap ≤ 9223372036854775807 ∧ BS w a l := by
  rcases h with ⟨rfl, rfl, rfl, rfl⟩ | ⟨x, rfl, hl, hm, hz, hc, hwf⟩
  · exact ⟨[], rfl, by simp, by omega, .inl rfl⟩
  · unfold maxLen at hm
    refine ⟨(zs.take len).map fun z => UInt8.ofNat z.toNat, by simp; omega, by simp; omega, hm, ?_⟩
    by_cases h0 : len = 0
    · subst h0; exact .inl (by simp)
    · obtain ⟨b, off, rfl, hcell⟩ := Go.ints_at hc (by omega)
      refine .inr ⟨b, off, rfl, fun j hj => ?_⟩
      have hj' : j < len := by simp at hj; omega
      have hjz : j < zs.length := by omega
      rw [hcell j hjz]
      have hb := hwf (zs.getD j 0) (by simp [List.getD, List.getElem?_eq_getElem hjz])
      have hb' : 0 ≤ zs.getD j 0 ∧ zs.getD j 0 ≤ 255 := by simpa [Lit.wf, IntKind.min, IntKind.max, IntKind.signed, IntKind.bits] using hb
      have e : (((zs.take len).map fun z => UInt8.ofNat z.toNat).getD j 0).toNat = (zs.getD j 0).toNat := by
        simp only [List.getD, List.getElem?_map, List.getElem?_take, if_pos hj', List.getElem?_eq_getElem hjz, Option.map_some, Option.getD_some] at hb' ⊢
        rw [UInt8.toNat_ofNat']
        omega
      rw [e]
      congr 2
      omega
end Go.Proofs.Ytonbfcpbgkpbaaa.Oc
