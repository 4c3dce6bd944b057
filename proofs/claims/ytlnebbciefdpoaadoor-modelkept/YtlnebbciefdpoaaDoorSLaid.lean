/- What the listed package-level variables hold, off the row's condition. -/
import Derived.Test.YtlnebbciefdpoaaDoorSView
import Derived.Test.YtlnebbciefdpoaaDoorSEq
import Derived.ProofKit
import Derived.LaidMore
import Derived.OpenShut
import Derived.Stop.Joined
namespace Go.Proofs.YtlnebbciefdpoaaDoor
open Go.ChangeShapes Go.WideShapes Go.ChangeAt Go.WideMaps Go.WideElems Go.RowKit
theorem own : ownKnob Tryd.prog.godebug = none := by kernel_rfl
theorem laidOut : laidOutB Tryd.prog = true := by kernel_rfl
theorem gRunes : Tryd.prog.globalNamed "tessera/spans.runes" = some 1 := by kernel_rfl
theorem gNothing : Tryd.prog.globalNamed "tessera/spans.nothing" = some 0 := by kernel_rfl
theorem tRunes : (Tryd.prog.globals[1]?).map (·.type) = some 143 := by kernel_rfl
theorem tNothing : (Tryd.prog.globals[0]?).map (·.type) = some 30 := by kernel_rfl
/-- The condition's list. -/
abbrev laids : List (String × DataW Unit) := [("tessera/spans.runes", Rows.laid_tessera_spans_runes), ("tessera/spans.nothing", Rows.laid_tessera_spans_nothing)]
/-- The door's own heap meets the condition. -/
theorem door_met (os : Os) (args : Array Value) : laidMetH Tryd.prog laids ((World.doorLaid Tryd.prog 400 os).forCall (fun _ _ => 0) ⟨#[], args, []⟩).memory :=
  laidMetH_of_parts3 (fuel := 8) (laidMet_of_run' 8 (by kernel_rfl) (by kernel_rfl)) (by kernel_rfl) (by kernel_rfl)
theorem cells26 : Tryd.prog.cellsOf 30 = 2 := by kernel_rfl
theorem cellsOf21 : Tryd.prog.cellsOf 21 = 1 := by kernel_rfl
theorem und48 : Tryd.prog.underlying 143 = some (.array 2 30) := by kernel_rfl
set_option maxRecDepth 100000 in
/-- A span's two cells, off its datum. -/
theorem sp_trod {H : Type} {enc : TypeId × Value → H} {w : World} {base : Nat} {sp : Nat → Bool} {held : Bool} {fuel : Nat} {cs : List Value} {lo hi : Int} {p : List MemPlace}
    (h : DataW.trod enc Tryd.prog w base sp held fuel 30 cs = some (.agg [.lit (.int .i32 lo), .lit (.int .i32 hi)], p)) : cs = [.int .i32 lo, .int .i32 hi] := by
  obtain ⟨xs, n, rfl, hx, hl, hn, hel⟩ := DataW.trod_struct und26 h
  rw [cells26] at hl
  obtain ⟨c0, c1, rfl⟩ : ∃ c0 c1, cs = [c0, c1] := by
    match cs, hl with
    | [c0, c1], _ => exact ⟨c0, c1, rfl⟩
  have h0 := hel 0 fLo rfl
  have h1 := hel 1 fHi rfl
  simp only [Prod.mk.injEq, DataW.agg.injEq] at hx
  match xs, hn, hx, h0, h1 with
  | [x0, x1], _, hx, h0, h1 =>
    simp only [fLo, fHi, cellsOf21, List.drop_zero, List.take_succ_cons, List.take_zero, List.drop_succ_cons, List.getElem?_cons_zero, List.getElem?_cons_succ] at h0 h1
    obtain ⟨k0, e0, f0, _⟩ := DataW.trod_int Tryd.underlying21 h0
    obtain ⟨k1, e1, f1, _⟩ := DataW.trod_int Tryd.underlying21 h1
    subst f0; subst f1
    simp at hx e0 e1
    rw [e0, e1, ← hx.1.1, ← hx.1.2]
set_option maxRecDepth 100000 in
theorem of_laid {W : World} (h : laidMetH Tryd.prog laids W) : GL W := by
  rw [MakeChecks.laidMetH_plain _ _ _ (by kernel_rfl)] at h
  obtain ⟨ps, ⟨g0, t0, cs0, f0, p0, q0, hg0, ht0, hv0, hd0, ⟨g1, t1, cs1, f1, p1, q1, hg1, ht1, hv1, hd1, _, _⟩, _⟩, _, _⟩ := h
  obtain rfl := Option.some.inj (gRunes.symm.trans hg0)
  obtain rfl := Option.some.inj (gNothing.symm.trans hg1)
  obtain rfl := Option.some.inj (tRunes.symm.trans ht0)
  obtain rfl := Option.some.inj (tNothing.symm.trans ht1)
  have e1 := sp_trod hd1
  have c1 := World.var?_cell hg1 hv1
  obtain ⟨l1⟩ := cs1
  simp only at e1
  subst e1
  obtain ⟨xs, m1, rfl, hx1, hlen, hn3, hel⟩ := DataW.trod_array und48 hd0
  have h0 := hel 0 (by decide)
  have h1 := hel 1 (by decide)
  have c0 := World.var?_cell hg0 hv0
  obtain ⟨l0⟩ := cs0
  simp only [Prod.mk.injEq, DataW.agg.injEq, Rows.laid_tessera_spans_runes] at hx1
  simp only [cells26] at h0 h1
  match xs, hn3, hx1, h0, h1 with
  | [⟨d0, p0⟩, ⟨d1, p1⟩], _, hx1, h0, h1 =>
    simp only [List.map_cons, List.map_nil, List.cons.injEq, and_true] at hx1
    obtain ⟨⟨rfl, rfl⟩, -⟩ := hx1
    simp only [List.getElem?_cons_zero, List.getElem?_cons_succ, Nat.zero_mul, Nat.one_mul, List.drop_zero] at h0 h1
    have e2 := sp_trod h0
    have e3 := sp_trod h1
    rw [show Tryd.prog.cellsOf 143 = 4 by kernel_rfl] at hlen
    simp only at hlen
    match l0, hlen, e2, e3, c0 with
    | [v0, v1, v2, v3], _, e2, e3, c0 =>
      simp at e2 e3
      obtain ⟨rfl, rfl⟩ := e2
      obtain ⟨rfl, rfl⟩ := e3
      exact ⟨⟨c1 0, c1 1⟩, ⟨c0 0, c0 1⟩, ⟨c0 2, c0 3⟩⟩
end Go.Proofs.YtlnebbciefdpoaaDoor
