import Derived.Test.YtjbdhakogbolkaaDoorJ0
import Derived.ProofKit
import Derived.LaidMore
import Derived.OpenShut
import Derived.Stop.Joined
import Derived.Deep.SlicePairs
import Derived.SizedLaws
import Derived.Test.YtjbdhakogbolkaaDoorJ3
import Derived.Lib.SmallJoins
import Derived.Deep.Strs
section
/- What the listed package-level variables hold, off the row's condition. -/
namespace Go.Proofs.YtjbdhakogbolkaaDoor
open Go.ChangeShapes Go.WideShapes Go.ChangeAt Go.WideMaps Go.WideElems Go.RowKit
theorem own : ownKnob Tryd.prog.godebug = none := by kernel_rfl
theorem laidOut : laidOutB Tryd.prog = true := by kernel_rfl
theorem gRunes : Tryd.prog.globalNamed "tessera/spans.runes" = some 1 := by kernel_rfl
theorem gNothing : Tryd.prog.globalNamed "tessera/spans.nothing" = some 0 := by kernel_rfl
theorem tRunes : (Tryd.prog.globals[1]?).map (·.type) = some 168 := by kernel_rfl
theorem tNothing : (Tryd.prog.globals[0]?).map (·.type) = some 27 := by kernel_rfl
/-- The condition's list. -/
abbrev laids : List (String × DataW Unit) := [("tessera/spans.runes", Rows.laid_tessera_spans_runes), ("tessera/spans.nothing", Rows.laid_tessera_spans_nothing)]
/-- The door's own heap meets the condition. -/
theorem door_met (os : Os) (args : Array Value) : laidMetH Tryd.prog laids ((World.doorLaid Tryd.prog 400 os).forCall (fun _ _ => 0) ⟨#[], args, []⟩).memory :=
  laidMetH_of_parts3 (fuel := 8) (laidMet_of_run' 8 (by kernel_rfl) (by kernel_rfl)) (by kernel_rfl) (by kernel_rfl)
theorem cells26 : Tryd.prog.cellsOf 27 = 2 := by kernel_rfl
theorem cellsOf21 : Tryd.prog.cellsOf 21 = 1 := by kernel_rfl
theorem und48 : Tryd.prog.underlying 168 = some (.array 2 27) := by kernel_rfl
set_option maxRecDepth 100000 in
/-- A span's two cells, off its datum. -/
theorem sp_trod {H : Type} {enc : TypeId × Value → H} {w : World} {base : Nat} {sp : Nat → Bool} {held : Bool} {fuel : Nat} {cs : List Value} {lo hi : Int} {p : List MemPlace}
    (h : DataW.trod enc Tryd.prog w base sp held fuel 27 cs = some (.agg [.lit (.int .i32 lo), .lit (.int .i32 hi)], p)) : cs = [.int .i32 lo, .int .i32 hi] := by
  obtain ⟨xs, n, rfl, hx, hl, hn, hel⟩ := DataW.trod_struct und26 h
  rw [cells26] at hl
  obtain ⟨c0, c1, rfl⟩ : ∃ c0 c1, cs = [c0, c1] := by
    match cs, hl with
    | [c0, c1], _ => exact ⟨c0, c1, rfl⟩
  have h0 := hel 0 fLo rfl
  have h1 := hel 1 fHi rfl
  simp only [Prod.mk.injEq, DataW.agg.injEq] at hx
  match xs, hn, hx, h0, h1 with
  | [x0, x1], _, hx, h0, h1 =>
    simp only [fLo, fHi, cellsOf21, List.drop_zero, List.take_succ_cons, List.take_zero, List.drop_succ_cons, List.getElem?_cons_zero, List.getElem?_cons_succ] at h0 h1
    obtain ⟨k0, e0, f0, _⟩ := DataW.trod_int Tryd.underlying21 h0
    obtain ⟨k1, e1, f1, _⟩ := DataW.trod_int Tryd.underlying21 h1
    subst f0; subst f1
    simp at hx e0 e1
    rw [e0, e1, ← hx.1.1, ← hx.1.2]
set_option maxRecDepth 100000 in
theorem of_laid {W : World} (h : laidMetH Tryd.prog laids W) : GL W := by
  rw [MakeChecks.laidMetH_plain _ _ _ (by kernel_rfl)] at h
  obtain ⟨ps, ⟨g0, t0, cs0, f0, p0, q0, hg0, ht0, hv0, hd0, ⟨g1, t1, cs1, f1, p1, q1, hg1, ht1, hv1, hd1, _, _⟩, _⟩, _, _⟩ := h
  obtain rfl := Option.some.inj (gRunes.symm.trans hg0)
  obtain rfl := Option.some.inj (gNothing.symm.trans hg1)
  obtain rfl := Option.some.inj (tRunes.symm.trans ht0)
  obtain rfl := Option.some.inj (tNothing.symm.trans ht1)
  have e1 := sp_trod hd1
  have c1 := World.var?_cell hg1 hv1
  obtain ⟨l1⟩ := cs1
  simp only at e1
  subst e1
  obtain ⟨xs, m1, rfl, hx1, hlen, hn3, hel⟩ := DataW.trod_array und48 hd0
  have h0 := hel 0 (by decide)
  have h1 := hel 1 (by decide)
  have c0 := World.var?_cell hg0 hv0
  obtain ⟨l0⟩ := cs0
  simp only [Prod.mk.injEq, DataW.agg.injEq, Rows.laid_tessera_spans_runes] at hx1
  simp only [cells26] at h0 h1
  match xs, hn3, hx1, h0, h1 with
  | [⟨d0, p0⟩, ⟨d1, p1⟩], _, hx1, h0, h1 =>
    simp only [List.map_cons, List.map_nil, List.cons.injEq, and_true] at hx1
    obtain ⟨⟨rfl, rfl⟩, -⟩ := hx1
    simp only [List.getElem?_cons_zero, List.getElem?_cons_succ, Nat.zero_mul, Nat.one_mul, List.drop_zero] at h0 h1
    have e2 := sp_trod h0
    have e3 := sp_trod h1
    rw [show Tryd.prog.cellsOf 168 = 4 by kernel_rfl] at hlen
    simp only at hlen
    match l0, hlen, e2, e3, c0 with
    | [v0, v1, v2, v3], _, e2, e3, c0 =>
      simp at e2 e3
      obtain ⟨rfl, rfl⟩ := e2
      obtain ⟨rfl, rfl⟩ := e3
      exact ⟨⟨c1 0, c1 1⟩, ⟨c0 0, c0 1⟩, ⟨c0 2, c0 3⟩⟩
end Go.Proofs.YtjbdhakogbolkaaDoor
end
section
/- A list of spans that came in. -/
namespace Go.Proofs.YtjbdhakogbolkaaDoor
open Go.ChangeShapes Go.WideShapes Go.ChangeAt Go.RowKit Go.Deep
section
variable {H : Type} {enc : TypeId × Value → H} {W : World} {x : DataW H × List MemPlace}
theorem open_spans {fuel : Nat} {a : Option Addr} {len cap : Nat} (h : DataW.trod enc Tryd.prog W 0 (fun _ => true) true fuel 28 (Value.slice a len cap).cells.toList = some x) :
    ∃ l : List Sp, len = l.length ∧ l.length ≤ cap ∧ cap ≤ 9223372036854775807 ∧ SPS W a l ∧ ∃ e s, x.1 = .slice e s ∧ e.length = l.length ∨ x.1 = .nil ∧ l = [] := by
  rcases open_slice_pairs Tryd.underlying28 und26 cells26 rfl rfl cellsOf21 cellsOf21 h with ⟨hcs, rfl⟩ | ⟨b, n, c, m, k, V0, V1, D0, D1, P0, P1, hcs, _, hl, hm, hmm, rfl, hel⟩
  · simp [Value.cells] at hcs
    obtain ⟨rfl, rfl, rfl⟩ := hcs
    exact ⟨[], rfl, Nat.le_refl _, by omega, .inl rfl, [], [], .inr ⟨rfl, rfl⟩⟩
  · simp [Value.cells] at hcs
    obtain ⟨rfl, rfl, rfl⟩ := hcs
    simp only [if_true] at hmm
    subst hmm
    unfold maxLen at hm
    have each : ∀ i, i < len → ∃ q : Sp, W.cell? (b.add (i * 2)) = some (.int .i32 q.lo) ∧ W.cell? (b.add (i * 2 + 1)) = some (.int .i32 q.hi) := by
      intro i hi
      obtain ⟨h0, h1, h2, h3⟩ := hel i (by omega)
      obtain ⟨n0, e0, _, _⟩ := DataW.trod_int Tryd.underlying21 h2
      obtain ⟨n1, e1, _, _⟩ := DataW.trod_int Tryd.underlying21 h3
      simp at e0 e1
      exact ⟨⟨n0, n1⟩, by rw [h0, e0], by rw [h1, e1]⟩
    haveI : Inhabited Sp := ⟨⟨0, 0⟩⟩
    obtain ⟨q, hq⟩ := choose_lt each
    refine ⟨(List.range len).map q, by simp, by simpa using hl, hm, ?_, _, _, .inl ⟨rfl, by simp⟩⟩
    by_cases h0 : len = 0
    · subst h0; exact .inl rfl
    · obtain ⟨blk, off, spot⟩ := b
      have hspot : spot = none := by simpa [Addr.add] using World.cell?_spot (hq 0 (by omega)).1
      subst hspot
      refine .inr ⟨blk, off, rfl, fun i y hy => ?_⟩
      have hi : i < len := by
        have := (List.getElem?_eq_some_iff.1 hy).1
        simpa using this
      rw [List.getElem?_map, List.getElem?_range hi] at hy
      obtain rfl : q i = y := by simpa using hy
      obtain ⟨h1, h2⟩ := hq i hi
      rw [add_plain] at h1 h2
      exact ⟨h1, by rw [Nat.add_assoc]; exact h2⟩
end
end Go.Proofs.YtjbdhakogbolkaaDoor
end
section
/- Models' data that came in. -/
namespace Go.Proofs.YtjbdhakogbolkaaDoor
open Go.ChangeShapes Go.WideShapes Go.ChangeAt Go.RowKit Go.Deep Go.Joins
def fd0 : Field := Field.mk "Words" 22 0 false "" "" 0
def fd1 : Field := Field.mk "Merges" 25 1 false "" "" 24
def fd2 : Field := Field.mk "Letters" 28 2 false "" "" 48
def fd3 : Field := Field.mk "Numbers" 28 3 false "" "" 72
def fd4 : Field := Field.mk "Spaces" 28 4 false "" "" 96
theorem undD : Tryd.prog.underlying 30 = some (.struct #[fd0, fd1, fd2, fd3, fd4]) := by kernel_rfl
theorem cellsD : Tryd.prog.cellsOf 30 = 5 := by kernel_rfl
theorem cellsS30 : Tryd.prog.cellsOf 28 = 1 := by kernel_rfl
theorem cellsS44 : Tryd.prog.cellsOf 22 = 1 := by kernel_rfl
theorem cellsS45 : Tryd.prog.cellsOf 25 = 1 := by kernel_rfl
theorem cells9 : Tryd.prog.cellsOf 9 = 1 := by kernel_rfl
theorem cells3 : Tryd.prog.cellsOf 3 = 1 := by kernel_rfl
theorem cellsMg : Tryd.prog.cellsOf 24 = 3 := by kernel_rfl
def fg0 : Field := Field.mk "Left" 3 0 false "" "" 0
def fg1 : Field := Field.mk "Right" 3 1 false "" "" 8
def fg2 : Field := Field.mk "Id" 3 2 false "" "" 16
theorem undMg : Tryd.prog.underlying 24 = some (.struct #[fg0, fg1, fg2]) := by kernel_rfl
section
variable {H : Type} {enc : TypeId × Value → H} {W : World} {x : DataW H × List MemPlace}
theorem one_slice {t e : TypeId} (ht : Tryd.prog.underlying t = some (.slice e)) {fuel : Nat} {v : Value} {y : DataW H × List MemPlace} (h : DataW.trod enc Tryd.prog W 0 (fun _ => true) true fuel t [v] = some y) : ∃ a n c, v = .slice a n c := by
  rcases DataW.trod_slice ht h with ⟨h1, _⟩ | ⟨a, n, c, _, _, _, _, h1, _⟩
  · exact ⟨none, 0, 0, by simpa using h1⟩
  · exact ⟨some a, n, c, by simpa using h1⟩
/-- What a reading says of a list's weight. -/
def WtN (y : DataW H) (n : Nat) : Prop := ∃ e s, y = .slice e s ∧ e.length = n ∨ y = .nil ∧ n = 0
theorem open_words {fuel : Nat} {a : Option Addr} {len cap : Nat} (h : DataW.trod enc Tryd.prog W 0 (fun _ => true) true fuel 22 [Value.slice a len cap] = some x) :
    ∃ l : List ByteArray, len = l.length ∧ l.length ≤ cap ∧ cap ≤ 9223372036854775807 ∧ WSP W a l ∧ WtN x.1 l.length := by
  rcases open_strs Tryd.underlying22 Tryd.underlying9 cells9 h with ⟨hcs, rfl⟩ | ⟨b, n, c, m, Sx, hcs, _, hl, hm, hmm, rfl, hel⟩
  · simp at hcs
    obtain ⟨rfl, rfl, rfl⟩ := hcs
    exact ⟨[], rfl, Nat.le_refl _, by omega, .inl rfl, [], [], .inr ⟨rfl, rfl⟩⟩
  · simp at hcs
    obtain ⟨rfl, rfl, rfl⟩ := hcs
    simp only [if_true] at hmm
    subst hmm
    unfold maxLen at hm
    refine ⟨(List.range len).map Sx, by simp, by simpa using hl, hm, ?_, _, _, .inl ⟨rfl, by simp⟩⟩
    by_cases h0 : len = 0
    · subst h0; exact .inl rfl
    · obtain ⟨blk, off, spot⟩ := b
      have hspot : spot = none := by simpa [Addr.add] using World.cell?_spot (hel 0 (by omega)).1
      subst hspot
      refine .inr ⟨blk, off, rfl, fun i y hy => ?_⟩
      have hi : i < len := by
        have := (List.getElem?_eq_some_iff.1 hy).1
        simpa using this
      rw [List.getElem?_map, List.getElem?_range hi] at hy
      obtain rfl : Sx i = y := by simpa using hy
      have h1 := (hel i (by omega)).1
      rw [add_plain] at h1
      exact h1
set_option maxRecDepth 100000 in
theorem open_merges {fuel : Nat} {a : Option Addr} {len cap : Nat} (h : DataW.trod enc Tryd.prog W 0 (fun _ => true) true fuel 25 [Value.slice a len cap] = some x) :
    ∃ l : List Mg, len = l.length ∧ l.length ≤ cap ∧ cap ≤ 9223372036854775807 ∧ MSP W a l ∧ MWf l ∧ WtN x.1 l.length := by
  rcases open_slice Tryd.underlying25 h with ⟨hcs, rfl⟩ | ⟨b, n, c, m, k, D, Pl, hcs, _, hl, hm, hmm, rfl, hel⟩
  · simp at hcs
    obtain ⟨rfl, rfl, rfl⟩ := hcs
    exact ⟨[], rfl, Nat.le_refl _, by omega, .inl rfl, fun i x h => by simp at h, [], [], .inr ⟨rfl, rfl⟩⟩
  · simp at hcs
    obtain ⟨rfl, rfl, rfl⟩ := hcs
    simp only [if_true] at hmm
    subst hmm
    unfold maxLen at hm
    have each : ∀ i, i < len → ∃ q : Mg, W.cell? (b.add (i * 3)) = some (.int .i64 q.l) ∧ W.cell? (b.add (i * 3 + 1)) = some (.int .i64 q.r) ∧ W.cell? (b.add (i * 3 + 2)) = some (.int .i64 q.i) ∧ W64 q.l ∧ W64 q.r ∧ W64 q.i := by
      intro i hi
      obtain ⟨cs', h1, h2⟩ := hel i (by omega)
      rw [cellsMg] at h1
      obtain ⟨_, hlen, hcell⟩ := World.cells?_some h1
      obtain ⟨xs, k', hk, hxy, _, hxl, hf⟩ := DataW.trod_struct undMg h2
      match xs, hxl, cs', hlen with
      | [y0, y1, y2], _, [v0, v1, v2], _ =>
        have g0 := hf 0 fg0 rfl
        have g1 := hf 1 fg1 rfl
        have g2 := hf 2 fg2 rfl
        simp [fg0, fg1, fg2, cells3] at g0 g1 g2
        have e0 := hcell 0 (by omega)
        have e1 := hcell 1 (by omega)
        have e2 := hcell 2 (by omega)
        rw [add_add] at e0 e1 e2
        obtain ⟨n0, q0, -, w0⟩ := DataW.trod_int Tryd.underlying3 g0
        obtain ⟨n1, q1, -, w1⟩ := DataW.trod_int Tryd.underlying3 g1
        obtain ⟨n2, q2, -, w2⟩ := DataW.trod_int Tryd.underlying3 g2
        simp at q0 q1 q2
        subst q0 q1 q2
        simp [Lit.wf, IntKind.min, IntKind.max, IntKind.signed, IntKind.bits] at w0 w1 w2
        exact ⟨⟨n0, n1, n2⟩, by simpa using e0, by simpa using e1, by simpa using e2, by unfold W64; omega, by unfold W64; omega, by unfold W64; omega⟩
    haveI : Inhabited Mg := ⟨⟨0, 0, 0⟩⟩
    obtain ⟨q, hq⟩ := choose_lt each
    refine ⟨(List.range len).map q, by simp, by simpa using hl, hm, ?_, ?_, _, _, .inl ⟨rfl, by simp⟩⟩
    · by_cases h0 : len = 0
      · subst h0; exact .inl rfl
      · obtain ⟨blk, off, spot⟩ := b
        have hspot : spot = none := by simpa [Addr.add] using World.cell?_spot (hq 0 (by omega)).1
        subst hspot
        refine .inr ⟨blk, off, rfl, fun i y hy => ?_⟩
        have hi : i < len := by
          have := (List.getElem?_eq_some_iff.1 hy).1
          simpa using this
        rw [List.getElem?_map, List.getElem?_range hi] at hy
        obtain rfl : q i = y := by simpa using hy
        obtain ⟨h1, h2, h3, -⟩ := hq i hi
        rw [add_plain] at h1 h2 h3
        exact ⟨h1, by rw [Nat.add_assoc]; exact h2, by rw [Nat.add_assoc]; exact h3⟩
    · intro i y hy
      have hi : i < len := by
        have := (List.getElem?_eq_some_iff.1 hy).1
        simpa using this
      rw [List.getElem?_map, List.getElem?_range hi] at hy
      obtain rfl : q i = y := by simpa using hy
      exact (hq i hi).2.2.2
set_option maxRecDepth 100000 in
theorem open_mdata {fuel : Nat} {v : Value} (hv : Value.okWide Tryd.prog W .any 0 30 v) (h : DataW.trod enc Tryd.prog W 0 (fun _ => true) true fuel 30 v.cells.toList = some x) :
    ∃ aw cw am cm a ca b cb c cc, ∃ (ws : List ByteArray) (ms : List Mg) (A B C : List Sp), v = .agg #[.slice aw ws.length cw, .slice am ms.length cm, .slice a A.length ca, .slice b B.length cb, .slice c C.length cc] ∧ WSP W aw ws ∧ MSP W am ms ∧ MWf ms ∧ Lst W a ca A ∧ Lst W b cb B ∧ Lst W c cc C ∧
      ∃ y0 y1 y2 y3 y4, x.1 = .agg [y0, y1, y2, y3, y4] ∧ WtN y0 ws.length ∧ WtN y1 ms.length ∧ WtN y2 A.length ∧ WtN y3 B.length ∧ WtN y4 C.length := by
  obtain ⟨cs, rfl, hsz⟩ := okWide_struct undD hv
  rw [cellsD] at hsz
  obtain ⟨v0, v1, v2, v3, v4, rfl⟩ : ∃ v0 v1 v2 v3 v4, cs = #[v0, v1, v2, v3, v4] := by
    obtain ⟨l⟩ := cs
    have hl : l.length = 5 := hsz
    cases l with
    | nil => simp at hl
    | cons v0 l => cases l with
      | nil => simp at hl
      | cons v1 l => cases l with
        | nil => simp at hl
        | cons v2 l => cases l with
          | nil => simp at hl
          | cons v3 l => cases l with
            | nil => simp at hl
            | cons v4 l => cases l with
              | nil => exact ⟨_, _, _, _, _, rfl⟩
              | cons _ _ => simp at hl
  obtain ⟨xs, n, rfl, hx, -, hn, hel⟩ := DataW.trod_struct undD h
  have h0 := hel 0 fd0 rfl
  have h1 := hel 1 fd1 rfl
  have h2 := hel 2 fd2 rfl
  have h3 := hel 3 fd3 rfl
  have h4 := hel 4 fd4 rfl
  simp only [Value.cells, fd0, fd1, fd2, fd3, fd4, cellsS30, cellsS44, cellsS45, List.drop_zero, List.drop_succ_cons, List.take_succ_cons, List.take_zero] at h0 h1 h2 h3 h4
  have hn : xs.length = 5 := hn
  have g0 : xs[0]? = some xs[0] := List.getElem?_eq_getElem (by omega)
  have g1 : xs[1]? = some xs[1] := List.getElem?_eq_getElem (by omega)
  have g2 : xs[2]? = some xs[2] := List.getElem?_eq_getElem (by omega)
  have g3 : xs[3]? = some xs[3] := List.getElem?_eq_getElem (by omega)
  have g4 : xs[4]? = some xs[4] := List.getElem?_eq_getElem (by omega)
  rw [g0] at h0
  rw [g1] at h1
  rw [g2] at h2
  rw [g3] at h3
  rw [g4] at h4
  obtain ⟨s0, n0, c0, rfl⟩ := one_slice Tryd.underlying22 h0
  obtain ⟨s1, n1, c1, rfl⟩ := one_slice Tryd.underlying25 h1
  obtain ⟨a, na, ca, rfl⟩ := one_slice Tryd.underlying28 h2
  obtain ⟨b, nb, cb, rfl⟩ := one_slice Tryd.underlying28 h3
  obtain ⟨c, nc, cc, rfl⟩ := one_slice Tryd.underlying28 h4
  obtain ⟨ws, rfl, -, -, w3, ew⟩ := open_words h0
  obtain ⟨ms, rfl, -, -, m3, m4, em⟩ := open_merges h1
  obtain ⟨A, rfl, a1, a2, a3, ea⟩ := open_spans (a := a) (len := na) (cap := ca) h2
  obtain ⟨B, rfl, b1, b2, b3, eb⟩ := open_spans (a := b) (len := nb) (cap := cb) h3
  obtain ⟨C, rfl, c1', c2, c3, ec⟩ := open_spans (a := c) (len := nc) (cap := cc) h4
  have wt : ∀ {y : DataW H} {l : List Sp}, (∃ e s, y = .slice e s ∧ e.length = l.length ∨ y = .nil ∧ l = []) → WtN y l.length := fun h => by
    obtain ⟨e, s, ⟨h1, h2⟩ | ⟨h1, h2⟩⟩ := h
    · exact ⟨e, s, .inl ⟨h1, h2⟩⟩
    · exact ⟨e, s, .inr ⟨h1, by rw [h2]; rfl⟩⟩
  refine ⟨s0, c0, s1, c1, a, ca, b, cb, c, cc, ws, ms, A, B, C, rfl, w3, m3, m4, ⟨a1, a2, a3⟩, ⟨b1, b2, b3⟩, ⟨c1', c2, c3⟩, (xs[0]).1, (xs[1]).1, (xs[2]).1, (xs[3]).1, (xs[4]).1, ?_, ew, em, wt ea, wt eb, wt ec⟩
  rw [hx]
  simp only
  congr 1
  apply List.ext_getElem (by simpa using hn)
  intro i hi hi'
  have hi5 : i < 5 := by simpa using hi'
  rcases (show i = 0 ∨ i = 1 ∨ i = 2 ∨ i = 3 ∨ i = 4 by omega) with rfl | rfl | rfl | rfl | rfl <;> simp
theorem sized_partN {ts : List TypeId} {ds : List (DataW H)} (h : (DataW.weightsEach Tryd.prog ts ds).all (· ≤ reachBytes) = true) {j k q el : Nat} {t : TypeId} {y : DataW H} {ys : List (DataW H)} {n : Nat} (ht : ts[j]? = some 30) (hd : ds[j]? = some (.agg ys)) (hk : ([fd0, fd1, fd2, fd3, fd4].map (·.type))[k]? = some t) (hu : Tryd.prog.underlying t = some (.slice el)) (hby : Tryd.prog.bytesOf el = q) (hy : ys[k]? = some y) (hw : WtN y n) : n * q ≤ reachBytes := by
  obtain ⟨e, s, ⟨rfl, h2⟩ | ⟨-, h2⟩⟩ := hw
  · have h1 := List.all_eq_true.1 h _ (DataW.weights_mem_each ht hd ((e.length + s.length) * Tryd.prog.bytesOf el) (by
      have h3 := DataW.weights_mem_each (P := Tryd.prog) hk hy ((e.length + s.length) * Tryd.prog.bytesOf el) (by simp [DataW.weights, hu])
      simpa [DataW.weights, undD, fd0, fd1, fd2, fd3, fd4] using h3))
    rw [hby] at h1
    have h1 : (e.length + s.length) * q ≤ reachBytes := by simpa using h1
    rw [← h2]
    exact Nat.le_trans (Nat.mul_le_mul_right _ (Nat.le_add_right _ _)) h1
  · rw [h2]; simp
theorem sizes_data {ts : List TypeId} {ds : List (DataW H)} (h : (DataW.weightsEach Tryd.prog ts ds).all (· ≤ reachBytes) = true) {j : Nat} {y0 y1 y2 y3 y4 : DataW H} {n0 n1 n2 n3 n4 : Nat} (ht : ts[j]? = some 30) (hd : ds[j]? = some (.agg [y0, y1, y2, y3, y4])) (w0 : WtN y0 n0) (w1 : WtN y1 n1) (w2 : WtN y2 n2) (w3 : WtN y3 n3) (w4 : WtN y4 n4) :
    n0 ≤ 8796093022208 ∧ n1 ≤ 5864062014805 ∧ n2 ≤ 17592186044416 ∧ n3 ≤ 17592186044416 ∧ n4 ≤ 17592186044416 := by
  have h0 := sized_partN (k := 0) h ht hd rfl Tryd.underlying22 (show Tryd.prog.bytesOf 9 = 16 by kernel_rfl) rfl w0
  have h1 := sized_partN (k := 1) h ht hd rfl Tryd.underlying25 (show Tryd.prog.bytesOf 24 = 24 by kernel_rfl) rfl w1
  have h2 := sized_partN (k := 2) h ht hd rfl Tryd.underlying28 (show Tryd.prog.bytesOf 27 = 8 by kernel_rfl) rfl w2
  have h3 := sized_partN (k := 3) h ht hd rfl Tryd.underlying28 (show Tryd.prog.bytesOf 27 = 8 by kernel_rfl) rfl w3
  have h4 := sized_partN (k := 4) h ht hd rfl Tryd.underlying28 (show Tryd.prog.bytesOf 27 = 8 by kernel_rfl) rfl w4
  unfold reachBytes at h0 h1 h2 h3 h4
  omega
end
end Go.Proofs.YtjbdhakogbolkaaDoor
end
