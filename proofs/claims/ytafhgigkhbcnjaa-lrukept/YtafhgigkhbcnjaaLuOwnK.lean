/- Lists of keys of one's own, with room. -/
import Derived.Test.YtafhgigkhbcnjaaLuBk0
namespace Go.Proofs.Ytafhgigkhbcnjaa.LU.K
open Go.RowKit Go.Joins Go.Sort Go.Maps
set_option linter.unusedVariables false
/-- A list of spans in memory of one's own, spare room and all. -/
def KPR (w : World) (lo : Nat) (a : Option Addr) (c : Nat) (l : List κ) : Prop := (c = 0 ∧ l = []) ∨ ∃ g cur, a = some ⟨g, 0, none⟩ ∧ lo ≤ g ∧ w.heap[g]? = some (.cells cur 36 (0, 0)) ∧ cur.size = c * 2 ∧ ∀ (i : Nat) (x : κ), l[i]? = some x → cur[i * 2]? = some (.int .i64 x.1) ∧ cur[i * 2 + 1]? = some (.int .i64 x.2)
theorem KPR.below {w w' : World} {lo c : Nat} {a : Option Addr} {l : List κ} (h : KPR w lo a c l) (hb : Below w.heap.size w w') : KPR w' lo a c l := by
  rcases h with h | ⟨g, cur, h1, h2, h3, h4⟩
  · exact .inl h
  · exact .inr ⟨g, cur, h1, h2, (hb.block g (Array.getElem?_eq_some_iff.1 h3).1).trans h3, h4⟩
theorem KPR.low {w : World} {lo lo' c : Nat} {a : Option Addr} {l : List κ} (h : KPR w lo a c l) (hl : lo' ≤ lo) : KPR w lo' a c l := by
  rcases h with h | ⟨g, cur, h1, h2, h3⟩
  · exact .inl h
  · exact .inr ⟨g, cur, h1, by omega, h3⟩
theorem KPR.away {w : World} {lo c : Nat} {a : Option Addr} {l : List κ} (h : KPR w lo a c l) {b o : Nat} (hb : b < lo) (v : Value) : KPR (w.setCell ⟨b, o, none⟩ v) lo a c l := by
  rcases h with h | ⟨g, cur, h1, h2, h3, h4⟩
  · exact .inl h
  · exact .inr ⟨g, cur, h1, h2, (Below.heap_setCell w ⟨b, o, none⟩ v g (fun e => by have e' : g = b := e; omega)).trans h3, h4⟩
theorem KPR.sp {w : World} {lo c : Nat} {a : Option Addr} {l : List κ} (h : KPR w lo a c l) : ESP w a l := by
  rcases h with ⟨-, h⟩ | ⟨g, cur, rfl, h2, h3, h4, h5⟩
  · exact .inl h
  · exact .inr ⟨g, 0, rfl, fun i x hx => ⟨by rw [cell_of_block h3, Nat.zero_add]; exact (h5 i x hx).1, by rw [cell_of_block h3, Nat.zero_add]; exact (h5 i x hx).2⟩⟩
/-- A list of spans of one's own. -/
structure OwnK (w : World) (lo : Nat) (a : Option Addr) (c : Nat) (l : List κ) : Prop where
  le : l.length ≤ c
  cap : c ≤ 9223372036854775807
  row : KPR w lo a c l
theorem OwnK.below {w w' : World} {lo c : Nat} {a : Option Addr} {l : List κ} (h : OwnK w lo a c l) (hb : Below w.heap.size w w') : OwnK w' lo a c l := ⟨h.le, h.cap, h.row.below hb⟩
theorem OwnK.low {w : World} {lo lo' c : Nat} {a : Option Addr} {l : List κ} (h : OwnK w lo a c l) (hl : lo' ≤ lo) : OwnK w lo' a c l := ⟨h.le, h.cap, h.row.low hl⟩
theorem OwnK.away {w : World} {lo c : Nat} {a : Option Addr} {l : List κ} (h : OwnK w lo a c l) {b o : Nat} (hb : b < lo) (v : Value) : OwnK (w.setCell ⟨b, o, none⟩ v) lo a c l := ⟨h.le, h.cap, h.row.away hb v⟩
theorem cellsE_one (l : List κ) : ∀ v ∈ cellsE l, v.oneCell' = true := by
  intro v hv
  simp only [cellsE, List.mem_flatMap] at hv
  obtain ⟨c, _, h⟩ := hv
  simp at h
  rcases h with rfl | rfl <;> rfl
theorem cellsE_get0 (l : List κ) (i : Nat) (x : κ) (h : l[i]? = some x) : (cellsE l)[i * 2]? = some (.int .i64 x.1) ∧ (cellsE l)[i * 2 + 1]? = some (.int .i64 x.2) := by
  have := cellsE_get l [] i x h
  rwa [List.append_nil] at this
theorem ESP.cells {w : World} {x : Addr} {l : List κ} (h : ESP w (some x) l) : ∀ j u, (cellsE l)[j]? = some u → w.cell? (x.add j) = some u := by
  intro j u hu
  rcases h with rfl | ⟨b, off, hx, hc⟩
  · simp [cellsE] at hu
  · obtain rfl := Option.some.inj hx
    have hj : j < (cellsE l).length := (List.getElem?_eq_some_iff.1 hu).1
    rw [cellsE_length] at hj
    have hi : l[j / 2]? = some l[j / 2] := List.getElem?_eq_getElem (by omega)
    obtain ⟨g0, g1⟩ := cellsE_get0 _ _ _ hi
    obtain ⟨c0, c1⟩ := hc _ _ hi
    rw [Go.WideShapes.add_plain]
    rcases Nat.mod_two_eq_zero_or_one j with e | e
    · have ej : j = j / 2 * 2 := by omega
      rw [ej, g0] at hu
      rw [ej, c0]
      exact hu
    · have ej : j = j / 2 * 2 + 1 := by omega
      rw [ej, g1] at hu
      rw [ej, ← Nat.add_assoc, c1]
      exact hu
/-- A full row is a list of one's own. -/
theorem OwnE.ownK {w : World} {g : Nat} {l : List κ} (h : OwnE w g (cellsE l)) (lo : Nat) (hlo : lo ≤ g) (hl : l.length ≤ 1000000) : OwnK w lo (some ⟨g, 0, none⟩) l.length l :=
  ⟨Nat.le_refl _, by omega, .inr ⟨g, _, rfl, hlo, h, by rw [List.size_toArray, cellsE_length], fun i x hx => by simpa using cellsE_get0 l i x hx⟩⟩
end Go.Proofs.Ytafhgigkhbcnjaa.LU.K
