/- Words and merges in memory; what a Model's block holds. -/
import Derived.Test.YtlnebbciefdpoaaDoorMMath
import Derived.Test.YtlnebbciefdpoaaDoorCOfT
namespace Go.Proofs.YtlnebbciefdpoaaDoor
open Go.RowKit Go.Sort Go.Joins
/-- The slice that begins at a holds the words l. -/
def WSP (w : World) (a : Option Addr) (l : List ByteArray) : Prop :=
  l = [] ∨ ∃ b off, a = some ⟨b, off, none⟩ ∧ ∀ i x, l[i]? = some x → w.cell? ⟨b, off + i, none⟩ = some (.string x)
theorem WSP.below {w w' : World} {a : Option Addr} {l : List ByteArray} (h : WSP w a l) (hb : Below w.heap.size w w') : WSP w' a l := by
  rcases h with h | ⟨b, off, rfl, hc⟩
  · exact .inl h
  · exact .inr ⟨b, off, rfl, fun i x hx => (hb.cell (World.block_lt_of_cell? w _ (hc i x hx))).trans (hc i x hx)⟩
theorem WSP.at_ {w : World} {a : Option Addr} {l : List ByteArray} (h : WSP w a l) {i : Nat} {x : ByteArray} (hx : l[i]? = some x) : ∃ b off, a = some ⟨b, off, none⟩ ∧ w.cell? ⟨b, off + i, none⟩ = some (.string x) := by
  rcases h with rfl | ⟨b, off, rfl, hc⟩
  · simp at hx
  · exact ⟨b, off, rfl, hc i x hx⟩
/-- A merge's three cells. -/
def MgAt (w : World) (b off : Nat) (x : Mg) : Prop := w.cell? ⟨b, off, none⟩ = some (.int .i64 x.l) ∧ w.cell? ⟨b, off + 1, none⟩ = some (.int .i64 x.r) ∧ w.cell? ⟨b, off + 2, none⟩ = some (.int .i64 x.i)
theorem MgAt.below {w w' : World} {b off : Nat} {x : Mg} (h : MgAt w b off x) (hb : Below w.heap.size w w') : MgAt w' b off x :=
  ⟨(hb.cell (World.block_lt_of_cell? w _ h.1)).trans h.1, (hb.cell (World.block_lt_of_cell? w _ h.2.1)).trans h.2.1, (hb.cell (World.block_lt_of_cell? w _ h.2.2)).trans h.2.2⟩
/-- The slice that begins at a holds the merges l. -/
def MSP (w : World) (a : Option Addr) (l : List Mg) : Prop :=
  l = [] ∨ ∃ b off, a = some ⟨b, off, none⟩ ∧ ∀ i x, l[i]? = some x → MgAt w b (off + i * 3) x
theorem MSP.below {w w' : World} {a : Option Addr} {l : List Mg} (h : MSP w a l) (hb : Below w.heap.size w w') : MSP w' a l := by
  rcases h with h | ⟨b, off, rfl, hc⟩
  · exact .inl h
  · exact .inr ⟨b, off, rfl, fun i x hx => (hc i x hx).below hb⟩
theorem MSP.at_ {w : World} {a : Option Addr} {l : List Mg} (h : MSP w a l) {i : Nat} {x : Mg} (hx : l[i]? = some x) : ∃ b off, a = some ⟨b, off, none⟩ ∧ MgAt w b (off + i * 3) x := by
  rcases h with rfl | ⟨b, off, rfl, hc⟩
  · simp at hx
  · exact ⟨b, off, rfl, hc i x hx⟩
structure Lsw (w : World) (a : Option Addr) (c : Nat) (l : List ByteArray) : Prop where
  le : l.length ≤ c
  cap : c ≤ 9223372036854775807
  at' : WSP w a l
structure Lsm (w : World) (a : Option Addr) (c : Nat) (l : List Mg) : Prop where
  le : l.length ≤ c
  cap : c ≤ 9223372036854775807
  at' : MSP w a l
theorem Lsw.below {w w' : World} {a : Option Addr} {c : Nat} {l : List ByteArray} (h : Lsw w a c l) (hb : Below w.heap.size w w') : Lsw w' a c l := ⟨h.le, h.cap, h.at'.below hb⟩
theorem Lsm.below {w w' : World} {a : Option Addr} {c : Nat} {l : List Mg} (h : Lsm w a c l) (hb : Below w.heap.size w w') : Lsm w' a c l := ⟨h.le, h.cap, h.at'.below hb⟩
/-- Its value. -/
def mgV (x : Mg) : Value := .agg #[.int .i64 x.l, .int .i64 x.r, .int .i64 x.i]
set_option maxHeartbeats 400000 in
theorem size_any (g n cw : Nat) (aw : Option Addr) (w : World) (hn : n ≤ 4611686018427387904) (h : w.cell? ⟨g, 0, none⟩ = some (.slice aw n cw)) :
    Calls Tryd.prog 10 #[.pointer (some ⟨g, 0, none⟩)] w fun e w' => e = .returned (.int .i64 (256 + (n : Int))) ∧ w' = w := by
  go_enter Tryd.func10, Tryd.ntmps10
  go_wp2_with fail
  go_ret
  exact ⟨rfl, rfl⟩
end Go.Proofs.YtlnebbciefdpoaaDoor
