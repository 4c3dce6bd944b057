/- Calls that came in: a slice of asks. -/
import Derived.Test.YtafhgigkhbcnjaaLuKw
import Derived.Deep.SlicePairs
import Derived.SizedLaws
namespace Go.Proofs.Ytafhgigkhbcnjaa.LU.K
open Go.ChangeShapes Go.WideShapes Go.ChangeAt Go.RowKit Go.Deep Go.Joins
set_option linter.unusedVariables false
theorem own : ownKnob Try.prog.godebug = none := by kernel_rfl
/-- One call: a Put or a Get. -/
structure Ask where
  put : Bool
  key : κ
  val : Int
/-- A call's cells. -/
def AskAt (w : World) (b off : Nat) (x : Ask) : Prop := w.cell? ⟨b, off, none⟩ = some (.bool x.put) ∧ w.cell? ⟨b, off + 1, none⟩ = some (.int .i64 x.key.1) ∧ w.cell? ⟨b, off + 2, none⟩ = some (.int .i64 x.key.2) ∧ w.cell? ⟨b, off + 3, none⟩ = some (.int .i64 x.val)
theorem AskAt.below {w w' : World} {b off B : Nat} {x : Ask} (h : AskAt w b off x) (hb : Below B w w') (hB : b < B) : AskAt w' b off x :=
  ⟨(hb.cell (p := ⟨b, off, none⟩) hB).trans h.1, (hb.cell (p := ⟨b, off + 1, none⟩) hB).trans h.2.1, (hb.cell (p := ⟨b, off + 2, none⟩) hB).trans h.2.2.1, (hb.cell (p := ⟨b, off + 3, none⟩) hB).trans h.2.2.2⟩
theorem AskAt.lt {w : World} {b off : Nat} {x : Ask} (h : AskAt w b off x) : b < w.heap.size := World.block_lt_of_cell? w _ h.1
/-- A slice at a holds these calls. -/
def ASP (w : World) (a : Option Addr) (l : List Ask) : Prop := l = [] ∨ ∃ b off, a = some ⟨b, off, none⟩ ∧ ∀ i x, l[i]? = some x → AskAt w b (off + i * 4) x
theorem ASP.below {w w' : World} {B : Nat} {a : Option Addr} {l : List Ask} (h : ASP w a l) (hb : Below B w w') (hB : w.heap.size ≤ B) : ASP w' a l := by
  rcases h with h | ⟨b, off, rfl, hc⟩
  · exact .inl h
  · exact .inr ⟨b, off, rfl, fun i x hx => (hc i x hx).below hb (Nat.lt_of_lt_of_le (hc i x hx).lt hB)⟩
def W64 (x : Int) : Prop := -9223372036854775808 ≤ x ∧ x ≤ 9223372036854775807
def Key64 (k : κ) : Prop := W64 k.1 ∧ W64 k.2

theorem Key64.kw {k : κ} (h : Key64 k) : Kw k := kw_of k.1 k.2 (WalkArith.wf_i64 h.1) (WalkArith.wf_i64 h.2)
def fk0 : Field := Field.mk "Put" 4 0 false "" "" 0
def fk1 : Field := Field.mk "Key" 36 1 false "" "" 8
def fk2 : Field := Field.mk "Value" 3 3 false "" "" 24
theorem undA : Try.prog.underlying 39 = some (.struct #[fk0, fk1, fk2]) := by kernel_rfl
theorem cellsA : Try.prog.cellsOf 39 = 4 := by kernel_rfl
theorem cellsK2 : Try.prog.cellsOf 36 = 2 := by kernel_rfl
theorem cells4 : Try.prog.cellsOf 4 = 1 := by kernel_rfl
theorem cells3 : Try.prog.cellsOf 3 = 1 := by kernel_rfl
section
variable {H : Type} {enc : TypeId × Value → H} {W : World} {x : DataW H × List MemPlace}
set_option maxRecDepth 100000 in
theorem open_asks {fuel : Nat} {a : Option Addr} {len cap : Nat} (h : DataW.trod enc Try.prog W 0 (fun _ => true) true fuel 31 [Value.slice a len cap] = some x) :
    ∃ l : List Ask, len = l.length ∧ l.length ≤ cap ∧ cap ≤ 9223372036854775807 ∧ ASP W a l ∧ ∀ y ∈ l, Key64 y.key := by
  rcases open_slice Try.underlying31 h with ⟨hcs, rfl⟩ | ⟨b, n, c, m, k, D, Pl, hcs, _, hl, hm, hmm, rfl, hel⟩
  · simp at hcs
    obtain ⟨rfl, rfl, rfl⟩ := hcs
    exact ⟨[], rfl, Nat.le_refl _, by omega, .inl rfl, fun x h => by simp at h⟩
  · simp at hcs
    obtain ⟨rfl, rfl, rfl⟩ := hcs
    simp only [if_true] at hmm
    subst hmm
    unfold maxLen at hm
    have each : ∀ i, i < len → ∃ q : Ask, (W.cell? (b.add (i * 4)) = some (.bool q.put) ∧ W.cell? (b.add (i * 4 + 1)) = some (.int .i64 q.key.1) ∧ W.cell? (b.add (i * 4 + 2)) = some (.int .i64 q.key.2) ∧ W.cell? (b.add (i * 4 + 3)) = some (.int .i64 q.val)) ∧ Key64 q.key := by
      intro i hi
      obtain ⟨cs', h1, h2⟩ := hel i (by omega)
      rw [cellsA] at h1
      obtain ⟨_, hlen, hcell⟩ := World.cells?_some h1
      obtain ⟨xs, k', hk, hxy, _, hxl, hf⟩ := DataW.trod_struct undA h2
      match xs, hxl, cs', hlen with
      | [y0, y1, y2], _, [v0, v1, v2, v3], _ =>
        have g0 := hf 0 fk0 rfl
        have g1 := hf 1 fk1 rfl
        have g2 := hf 2 fk2 rfl
        simp [fk0, fk1, fk2, cells3, cells4, cellsK2] at g0 g1 g2
        have e0 := hcell 0 (by omega)
        have e1 := hcell 1 (by omega)
        have e2 := hcell 2 (by omega)
        have e3 := hcell 3 (by omega)
        rw [add_add] at e0 e1 e2 e3
        obtain ⟨n0, q0, -⟩ := DataW.trod_bool Try.underlying4 g0
        obtain ⟨n3, q3, -, w3⟩ := DataW.trod_int Try.underlying3 g2
        obtain ⟨zs, k2, hk2, hzy, _, hzl, hz⟩ := DataW.trod_struct undK g1
        match zs, hzl with
        | [z0, z1], _ =>
          have i0 := hz 0 fA rfl
          have i1 := hz 1 fB rfl
          simp [fA, fB, cells3] at i0 i1
          obtain ⟨n1, q1, -, w1⟩ := DataW.trod_int Try.underlying3 i0
          obtain ⟨n2, q2, -, w2⟩ := DataW.trod_int Try.underlying3 i1
          simp at q0 q1 q2 q3
          subst q0 q1 q2 q3
          simp [Lit.wf, IntKind.min, IntKind.max, IntKind.signed, IntKind.bits] at w1 w2
          exact ⟨⟨n0, (n1, n2), n3⟩, ⟨by simpa using e0, by simpa using e1, by simpa using e2, by simpa using e3⟩, ⟨by unfold W64; omega, by unfold W64; omega⟩⟩
    haveI : Inhabited Ask := ⟨⟨false, (0, 0), 0⟩⟩
    obtain ⟨q, hq⟩ := choose_lt each
    refine ⟨(List.range len).map q, by simp, by simpa using hl, hm, ?_, ?_⟩
    · by_cases h0 : len = 0
      · subst h0; exact .inl rfl
      · obtain ⟨blk, off, spot⟩ := b
        have hspot : spot = none := by simpa [Addr.add] using World.cell?_spot (hq 0 (by omega)).1.1
        subst hspot
        refine .inr ⟨blk, off, rfl, fun i y hy => ?_⟩
        have hi : i < len := by
          have := (List.getElem?_eq_some_iff.1 hy).1
          simpa using this
        rw [List.getElem?_map, List.getElem?_range hi] at hy
        obtain rfl : q i = y := by simpa using hy
        obtain ⟨⟨h1, h2, h3, h4⟩, -⟩ := hq i hi
        rw [add_plain] at h1 h2 h3 h4
        exact ⟨h1, by rw [Nat.add_assoc]; exact h2, by rw [Nat.add_assoc]; exact h3, by rw [Nat.add_assoc]; exact h4⟩
    · intro y hy
      obtain ⟨i, hi, rfl⟩ := List.mem_map.1 hy
      exact (hq i (by simpa using hi)).2
end
end Go.Proofs.Ytafhgigkhbcnjaa.LU.K
