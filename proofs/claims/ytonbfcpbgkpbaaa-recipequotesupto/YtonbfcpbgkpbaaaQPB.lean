/- recipe's parser in memory; its scanner's smallest calls. -/
import Derived.Test.YtonbfcpbgkpbaaaQMem
import Derived.Test.YtonbfcpbgkpbaaaQLib4
import Derived.Test.YtonbfcpbgkpbaaaQParse
import Derived.Deep.RegionHeld3
import Derived.Deep.DrawnRows
import Derived.Deep.Draws
namespace Go.Proofs.Ytonbfcpbgkpbaaa
open Go.RowKit Go.Sort Go.Joins
set_option linter.unusedVariables false
set_option maxRecDepth 100000
/-- What a parser holds. -/
structure PZ where
  src : ByteArray
  p : Nat
  k : Nat
  t : Nat
  s : ByteArray
  M : Value
  W0 : Value
  M0 : Value
  A : Value
  B : Value
  C : Value
  why : Nat
  at' : Nat
def PZ.cells (s : PZ) : Array Value := #[.string s.src, .int .i64 (s.p : Nat), .int .i64 (s.k : Nat), .int .i64 (s.t : Nat), .string s.s, s.M, s.W0, s.M0, s.A, s.B, s.C, .int .i64 (s.why : Nat), .int .i64 (s.at' : Nat)]
/-- A parser lies at block g. -/
def PB (w : World) (g : Nat) (s : PZ) : Prop := w.heap[g]? = some (.cells s.cells 79 (0, 0))
theorem PB.lt {w : World} {g : Nat} {s : PZ} (h : PB w g s) : g < w.heap.size := (Array.getElem?_eq_some_iff.1 h).1
theorem PB.cell {w : World} {g : Nat} {s : PZ} (h : PB w g s) (i : Nat) : w.cell? ⟨g, i, none⟩ = s.cells[i]? := cell_of_block h i
theorem PB.c0 {w : World} {g : Nat} {s : PZ} (h : PB w g s) : w.cell? ⟨g, 0, none⟩ = some (.string s.src) := (h.cell 0).trans rfl
theorem PB.c1 {w : World} {g : Nat} {s : PZ} (h : PB w g s) : w.cell? ⟨g, 1, none⟩ = some (.int .i64 (s.p : Nat)) := (h.cell 1).trans rfl
theorem PB.c2 {w : World} {g : Nat} {s : PZ} (h : PB w g s) : w.cell? ⟨g, 2, none⟩ = some (.int .i64 (s.k : Nat)) := (h.cell 2).trans rfl
theorem PB.c3 {w : World} {g : Nat} {s : PZ} (h : PB w g s) : w.cell? ⟨g, 3, none⟩ = some (.int .i64 (s.t : Nat)) := (h.cell 3).trans rfl
theorem PB.c4 {w : World} {g : Nat} {s : PZ} (h : PB w g s) : w.cell? ⟨g, 4, none⟩ = some (.string s.s) := (h.cell 4).trans rfl
theorem PB.c5 {w : World} {g : Nat} {s : PZ} (h : PB w g s) : w.cell? ⟨g, 5, none⟩ = some s.M := (h.cell 5).trans rfl
theorem PB.c6 {w : World} {g : Nat} {s : PZ} (h : PB w g s) : w.cell? ⟨g, 6, none⟩ = some s.W0 := (h.cell 6).trans rfl
theorem PB.c7 {w : World} {g : Nat} {s : PZ} (h : PB w g s) : w.cell? ⟨g, 7, none⟩ = some s.M0 := (h.cell 7).trans rfl
theorem PB.c8 {w : World} {g : Nat} {s : PZ} (h : PB w g s) : w.cell? ⟨g, 8, none⟩ = some s.A := (h.cell 8).trans rfl
theorem PB.c9 {w : World} {g : Nat} {s : PZ} (h : PB w g s) : w.cell? ⟨g, 9, none⟩ = some s.B := (h.cell 9).trans rfl
theorem PB.c10 {w : World} {g : Nat} {s : PZ} (h : PB w g s) : w.cell? ⟨g, 10, none⟩ = some s.C := (h.cell 10).trans rfl
theorem PB.c11 {w : World} {g : Nat} {s : PZ} (h : PB w g s) : w.cell? ⟨g, 11, none⟩ = some (.int .i64 (s.why : Nat)) := (h.cell 11).trans rfl
theorem PB.c12 {w : World} {g : Nat} {s : PZ} (h : PB w g s) : w.cell? ⟨g, 12, none⟩ = some (.int .i64 (s.at' : Nat)) := (h.cell 12).trans rfl
theorem PB.free {w : World} {g : Nat} {s : PZ} (h : PB w g s) (i : Nat) : w.frozen? ⟨g, i, none⟩ = false := unfrozen_of_block h i
theorem PB.below {w w' : World} {g B : Nat} {s : PZ} (h : PB w g s) (hb : Below B w w') (hg : g < B) : PB w' g s := (hb.block g hg).trans h
theorem PB.other {w : World} {g b o : Nat} {s : PZ} (h : PB w g s) (hb : g ≠ b) (v : Value) : PB (w.setCell ⟨b, o, none⟩ v) g s := (Below.heap_setCell _ _ _ _ hb).trans h
theorem PB.set {w : World} {g : Nat} {s : PZ} (h : PB w g s) (i : Nat) (v : Value) {s' : PZ} (he : s.cells.setIfInBounds i v = s'.cells) : PB (w.setCell ⟨g, i, none⟩ v) g s' := by
  have := block_setCell h (i := i) v
  rw [he] at this
  exact this
theorem PB.setP {w : World} {g : Nat} {s : PZ} (h : PB w g s) (q : Nat) : PB (w.setCell ⟨g, 1, none⟩ (.int .i64 (q : Nat))) g { s with p := q } := h.set 1 _ rfl
theorem PB.setK {w : World} {g : Nat} {s : PZ} (h : PB w g s) (q : Nat) : PB (w.setCell ⟨g, 2, none⟩ (.int .i64 (q : Nat))) g { s with k := q } := h.set 2 _ rfl
theorem PB.setT {w : World} {g : Nat} {s : PZ} (h : PB w g s) (q : Nat) : PB (w.setCell ⟨g, 3, none⟩ (.int .i64 (q : Nat))) g { s with t := q } := h.set 3 _ rfl
theorem PB.setS {w : World} {g : Nat} {s : PZ} (h : PB w g s) (q : ByteArray) : PB (w.setCell ⟨g, 4, none⟩ (.string q)) g { s with s := q } := h.set 4 _ rfl
theorem PB.setM {w : World} {g : Nat} {s : PZ} (h : PB w g s) (v : Value) : PB (w.setCell ⟨g, 5, none⟩ v) g { s with M := v } := h.set 5 _ rfl
theorem PB.setW0 {w : World} {g : Nat} {s : PZ} (h : PB w g s) (v : Value) : PB (w.setCell ⟨g, 6, none⟩ v) g { s with W0 := v } := h.set 6 _ rfl
theorem PB.setM0 {w : World} {g : Nat} {s : PZ} (h : PB w g s) (v : Value) : PB (w.setCell ⟨g, 7, none⟩ v) g { s with M0 := v } := h.set 7 _ rfl
theorem PB.setA {w : World} {g : Nat} {s : PZ} (h : PB w g s) (v : Value) : PB (w.setCell ⟨g, 8, none⟩ v) g { s with A := v } := h.set 8 _ rfl
theorem PB.setB {w : World} {g : Nat} {s : PZ} (h : PB w g s) (v : Value) : PB (w.setCell ⟨g, 9, none⟩ v) g { s with B := v } := h.set 9 _ rfl
theorem PB.setC {w : World} {g : Nat} {s : PZ} (h : PB w g s) (v : Value) : PB (w.setCell ⟨g, 10, none⟩ v) g { s with C := v } := h.set 10 _ rfl
theorem PB.setWhy {w : World} {g : Nat} {s : PZ} (h : PB w g s) (q : Nat) : PB (w.setCell ⟨g, 11, none⟩ (.int .i64 (q : Nat))) g { s with why := q } := h.set 11 _ rfl
theorem PB.setAt {w : World} {g : Nat} {s : PZ} (h : PB w g s) (q : Nat) : PB (w.setCell ⟨g, 12, none⟩ (.int .i64 (q : Nat))) g { s with at' := q } := h.set 12 _ rfl
theorem hereI_end {l : List UInt8} {k : Nat} (h : l.length ≤ k) : hereI l k = -1 := by unfold hereI; rw [List.getElem?_eq_none h]
theorem hereI_at {l : List UInt8} {k : Nat} (h : k < l.length) : hereI l k = (l[k].toNat : Int) := by unfold hereI; rw [List.getElem?_eq_getElem h]
theorem hereI_ge (l : List UInt8) (k : Nat) : -1 ≤ hereI l k ∧ hereI l k ≤ 255 := by
  unfold hereI
  split
  · omega
  · rename_i c _
    have := UInt8.toNat_lt c
    omega
set_option maxHeartbeats 1000000 in
theorem here_any (g : Nat) (s : PZ) (w : World) (h : PB w g s) (hp : s.p ≤ s.src.size) (hs : s.src.size ≤ 9223372036854775807) :
    Calls Try.prog 61 #[.pointer (some ⟨g, 0, none⟩)] w fun e w' => e = .returned (.int .i64 (hereI (tl s.src) s.p)) ∧ Below w.heap.size w w' := by
  have c0 := h.c0
  have c1 := h.c1
  obtain ⟨src, p, k, t, ss, M, W0, M0, A, B, C, why, at'⟩ := s
  simp only at *
  clear h
  by_cases hlt : p < src.size
  · have hH : hereI (tl src) p = ((src[p]).toNat : Int) := hereI_at (l := tl src) (by simpa using hlt)
    rw [hH]
    have hne : ((p : Int) == (src.size : Int)) = false := by simp; omega
    have hb := UInt8.toNat_lt (src[p])
    clear hH
    go_enter Try.func61, Try.ntmps61
    go_wp2_with fail
    go_quiet (fail)
    go_wp2_with fail
    go_quiet (fail)
    go_wp2_with fail
    go_ret
    exact ⟨rfl, by first | exact (below_drewN (below_drewN (Below.refl _ _) _) _) | exact below_drewN (Below.refl _ _) _⟩
  · have hpe : p = src.size := by omega
    subst hpe
    rw [hereI_end (by simp)]
    have hne : ((src.size : Int) == (src.size : Int)) = true := by simp
    go_enter Try.func61, Try.ntmps61
    go_wp2_with fail
    go_quiet (fail)
    go_wp2_with fail
    go_ret
    exact ⟨rfl, below_drewN (Below.refl _ _) _⟩
end Go.Proofs.Ytonbfcpbgkpbaaa
