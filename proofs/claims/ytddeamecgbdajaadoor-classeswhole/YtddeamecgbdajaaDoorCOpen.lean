/- Data and an item that came in. -/
import Derived.Test.YtddeamecgbdajaaDoorSOpen
import Derived.Test.YtddeamecgbdajaaDoorCOf
import Derived.Lib.SmallJoins
import Derived.SizedLaws
namespace Go.Proofs.YtddeamecgbdajaaDoor
open Go.ChangeShapes Go.WideShapes Go.ChangeAt Go.RowKit Go.Deep Go.Joins
def fd0 : Field := Field.mk "Words" 44 0 false "" "" 0
def fd1 : Field := Field.mk "Merges" 45 1 false "" "" 24
def fd2 : Field := Field.mk "Letters" 30 2 false "" "" 48
def fd3 : Field := Field.mk "Numbers" 30 3 false "" "" 72
def fd4 : Field := Field.mk "Spaces" 30 4 false "" "" 96
theorem undD : Tryd.prog.underlying 47 = some (.struct #[fd0, fd1, fd2, fd3, fd4]) := by kernel_rfl
theorem cellsD : Tryd.prog.cellsOf 47 = 5 := by kernel_rfl
theorem cellsS30 : Tryd.prog.cellsOf 30 = 1 := by kernel_rfl
theorem cellsS44 : Tryd.prog.cellsOf 44 = 1 := by kernel_rfl
theorem cellsS45 : Tryd.prog.cellsOf 45 = 1 := by kernel_rfl
def fi0 : Field := Field.mk "From" 3 0 false "" "" 0
def fi1 : Field := Field.mk "Bytes" 3 1 false "" "" 8
def fi2 : Field := Field.mk "Rune" 21 2 false "" "" 16
def fi3 : Field := Field.mk "Bad" 4 3 false "" "" 20
theorem undI : Tryd.prog.underlying 51 = some (.struct #[fi0, fi1, fi2, fi3]) := by kernel_rfl
theorem cellsI4 : Tryd.prog.cellsOf 51 = 4 := by kernel_rfl
theorem oneI : oneCellFields Tryd.prog #[fi0, fi1, fi2, fi3] = true := by kernel_rfl
section
variable {H : Type} {enc : TypeId × Value → H} {W : World} {x : DataW H × List MemPlace}
theorem one_slice {t e : TypeId} (ht : Tryd.prog.underlying t = some (.slice e)) {fuel : Nat} {v : Value} {y : DataW H × List MemPlace} (h : DataW.trod enc Tryd.prog W 0 (fun _ => true) true fuel t [v] = some y) : ∃ a n c, v = .slice a n c := by
  rcases DataW.trod_slice ht h with ⟨h1, _⟩ | ⟨a, n, c, _, _, _, _, h1, _⟩
  · exact ⟨none, 0, 0, by simpa using h1⟩
  · exact ⟨some a, n, c, by simpa using h1⟩
/-- What a reading says of a list's weight. -/
def Wt (y : DataW H) (l : List Sp) : Prop := ∃ e s, y = .slice e s ∧ e.length = l.length ∨ y = .nil ∧ l = []
set_option maxRecDepth 100000 in
theorem open_data {fuel : Nat} {v : Value} (hv : Value.okWide Tryd.prog W .any 0 47 v) (h : DataW.trod enc Tryd.prog W 0 (fun _ => true) true fuel 47 v.cells.toList = some x) :
    ∃ s0 n0 c0 s1 n1 c1 a ca b cb c cc, ∃ A B C : List Sp, v = dtV (.slice s0 n0 c0) (.slice s1 n1 c1) a b c A.length ca B.length cb C.length cc ∧ Lst W a ca A ∧ Lst W b cb B ∧ Lst W c cc C ∧
      ∃ y0 y1 y2 y3 y4, x.1 = .agg [y0, y1, y2, y3, y4] ∧ Wt y2 A ∧ Wt y3 B ∧ Wt y4 C := by
  obtain ⟨cs, rfl, hsz⟩ := okWide_struct undD hv
  rw [cellsD] at hsz
  obtain ⟨v0, v1, v2, v3, v4, rfl⟩ : ∃ v0 v1 v2 v3 v4, cs = #[v0, v1, v2, v3, v4] := by
    obtain ⟨l⟩ := cs
    have hl : l.length = 5 := hsz
    cases l with
    | nil => simp at hl
    | cons v0 l => cases l with
      | nil => simp at hl
      | cons v1 l => cases l with
        | nil => simp at hl
        | cons v2 l => cases l with
          | nil => simp at hl
          | cons v3 l => cases l with
            | nil => simp at hl
            | cons v4 l => cases l with
              | nil => exact ⟨_, _, _, _, _, rfl⟩
              | cons _ _ => simp at hl
  obtain ⟨xs, n, rfl, hx, -, hn, hel⟩ := DataW.trod_struct undD h
  have h0 := hel 0 fd0 rfl
  have h1 := hel 1 fd1 rfl
  have h2 := hel 2 fd2 rfl
  have h3 := hel 3 fd3 rfl
  have h4 := hel 4 fd4 rfl
  simp only [Value.cells, fd0, fd1, fd2, fd3, fd4, cellsS30, cellsS44, cellsS45, List.drop_zero, List.drop_succ_cons, List.take_succ_cons, List.take_zero] at h0 h1 h2 h3 h4
  have hn : xs.length = 5 := hn
  have g0 : xs[0]? = some xs[0] := List.getElem?_eq_getElem (by omega)
  have g1 : xs[1]? = some xs[1] := List.getElem?_eq_getElem (by omega)
  have g2 : xs[2]? = some xs[2] := List.getElem?_eq_getElem (by omega)
  have g3 : xs[3]? = some xs[3] := List.getElem?_eq_getElem (by omega)
  have g4 : xs[4]? = some xs[4] := List.getElem?_eq_getElem (by omega)
  rw [g0] at h0
  rw [g1] at h1
  rw [g2] at h2
  rw [g3] at h3
  rw [g4] at h4
  obtain ⟨s0, n0, c0, rfl⟩ := one_slice Tryd.underlying44 h0
  obtain ⟨s1, n1, c1, rfl⟩ := one_slice Tryd.underlying45 h1
  obtain ⟨a, na, ca, rfl⟩ := one_slice Tryd.underlying30 h2
  obtain ⟨b, nb, cb, rfl⟩ := one_slice Tryd.underlying30 h3
  obtain ⟨c, nc, cc, rfl⟩ := one_slice Tryd.underlying30 h4
  obtain ⟨A, rfl, a1, a2, a3, ea⟩ := open_spans (a := a) (len := na) (cap := ca) h2
  obtain ⟨B, rfl, b1, b2, b3, eb⟩ := open_spans (a := b) (len := nb) (cap := cb) h3
  obtain ⟨C, rfl, c1', c2, c3, ec⟩ := open_spans (a := c) (len := nc) (cap := cc) h4
  refine ⟨s0, n0, c0, s1, n1, c1, a, ca, b, cb, c, cc, A, B, C, rfl, ⟨a1, a2, a3⟩, ⟨b1, b2, b3⟩, ⟨c1', c2, c3⟩, (xs[0]).1, (xs[1]).1, (xs[2]).1, (xs[3]).1, (xs[4]).1, ?_, ea, eb, ec⟩
  rw [hx]
  simp only
  congr 1
  apply List.ext_getElem (by simpa using hn)
  intro i hi hi'
  have hi5 : i < 5 := by simpa using hi'
  rcases (show i = 0 ∨ i = 1 ∨ i = 2 ∨ i = 3 ∨ i = 4 by omega) with rfl | rfl | rfl | rfl | rfl <;> simp
theorem sized_part {ts : List TypeId} {ds : List (DataW H)} (h : (DataW.weightsEach Tryd.prog ts ds).all (· ≤ reachBytes) = true) {j k : Nat} {y : DataW H} {ys : List (DataW H)} {l : List Sp} (ht : ts[j]? = some 47) (hd : ds[j]? = some (.agg ys)) (hk : ([fd0, fd1, fd2, fd3, fd4].map (·.type))[k]? = some 30) (hy : ys[k]? = some y) (hw : Wt y l) : l.length ≤ 17592186044416 := by
  obtain ⟨e, s, ⟨rfl, h2⟩ | ⟨-, h2⟩⟩ := hw
  · have h1 := List.all_eq_true.1 h _ (DataW.weights_mem_each ht hd ((e.length + s.length) * Tryd.prog.bytesOf 29) (by
      have h3 := DataW.weights_mem_each (P := Tryd.prog) hk hy ((e.length + s.length) * Tryd.prog.bytesOf 29) (by simp [DataW.weights, Tryd.underlying30])
      simpa [DataW.weights, undD, fd0, fd1, fd2, fd3, fd4] using h3))
    rw [show Tryd.prog.bytesOf 29 = 8 by kernel_rfl] at h1
    have h1 : (e.length + s.length) * 8 ≤ reachBytes := by simpa using h1
    unfold reachBytes at h1
    omega
  · rw [h2]; simp
set_option maxRecDepth 100000 in
theorem open_item {v : Value} {d : DataW H} {p : List MemPlace} (hv : Value.okWide Tryd.prog W .any 0 51 v) (h : DataW.Trod enc Tryd.prog W 0 (fun _ => true) true 51 v d p) :
    ∃ (fr n r : Int) (bad : Bool), v = .agg #[.int .i64 fr, .int .i64 n, .int .i32 r, .bool bad] := by
  obtain ⟨v0, v1, v2, v3, y0, y1, y2, y3, n, rfl, -, -, h0, h1, h2, h3⟩ := open_agg4 undI oneI cellsI4 hv h
  obtain ⟨k0, e0, _, _⟩ := DataW.trod_int Tryd.underlying3 h0
  obtain ⟨k1, e1, _, _⟩ := DataW.trod_int Tryd.underlying3 h1
  obtain ⟨k2, e2, _, _⟩ := DataW.trod_int Tryd.underlying21 h2
  obtain ⟨k3, e3, _⟩ := DataW.trod_bool Tryd.underlying4 h3
  simp at e0 e1 e2 e3
  subst e0 e1 e2 e3
  exact ⟨_, _, _, _, rfl⟩
end
end Go.Proofs.YtddeamecgbdajaaDoor
