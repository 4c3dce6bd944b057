/- classes.Table.Of: its contract; the value of data. -/
import Derived.Test.YtlnebbciefdpoaaDoorCOver
import Derived.Test.YtlnebbciefdpoaaDoorSIn
import Derived.Test.YtlnebbciefdpoaaDoorSRefIn
namespace Go.Proofs.YtlnebbciefdpoaaDoor
open Go.RowKit Go.Sort Go.Joins
/-- The three cells that are read. -/
def Tri (w : World) (b0 : Nat) (a b c : Option Addr) (ca cb cc : Nat) (A B C : List Sp) : Prop := w.cell? ⟨b0, 1, none⟩ = some (.slice a A.length ca) ∧ w.cell? ⟨b0, 2, none⟩ = some (.slice b B.length cb) ∧ w.cell? ⟨b0, 3, none⟩ = some (.slice c C.length cc)
theorem Tri.below {w w' : World} {b0 : Nat} {a b c : Option Addr} {ca cb cc : Nat} {A B C : List Sp} (h : Tri w b0 a b c ca cb cc A B C) (hb : Below w.heap.size w w') : Tri w' b0 a b c ca cb cc A B C :=
  ⟨(hb.cell (World.block_lt_of_cell? w _ h.1)).trans h.1, (hb.cell (World.block_lt_of_cell? w _ h.2.1)).trans h.2.1, (hb.cell (World.block_lt_of_cell? w _ h.2.2)).trans h.2.2⟩
theorem Four.tri {w : World} {b0 : Nat} {a b c : Option Addr} {ca cb cc : Nat} {A B C : List Sp} (h : Four w b0 a b c ca cb cc A B C) : Tri w b0 a b c ca cb cc A B C := ⟨h 1 (by omega), h 2 (by omega), h 3 (by omega)⟩
/-- A Table lies at block b0. -/
def TabAt (w : World) (b0 : Nat) (A B C : List Sp) : Prop := ∃ a b c ca cb cc, Tri w b0 a b c ca cb cc A B C ∧ Lst w a ca A ∧ Lst w b cb B ∧ Lst w c cc C
theorem TabAt.below {w w' : World} {b0 : Nat} {A B C : List Sp} (h : TabAt w b0 A B C) (hb : Below w.heap.size w w') : TabAt w' b0 A B C := by
  obtain ⟨a, b, c, ca, cb, cc, h1, h2, h3, h4⟩ := h
  exact ⟨a, b, c, ca, cb, cc, h1.below hb, h2.below hb, h3.below hb, h4.below hb⟩
theorem Four.one {w : World} {b0 : Nat} {a b c : Option Addr} {ca cb cc : Nat} {A B C : List Sp} (h : Four w b0 a b c ca cb cc A B C) : w.cell? ⟨b0, 1, none⟩ = some (.slice a A.length ca) ∧ w.cell? ⟨b0, 2, none⟩ = some (.slice b B.length cb) ∧ w.cell? ⟨b0, 3, none⟩ = some (.slice c C.length cc) ∧ w.cell? ⟨b0, 0, none⟩ = some (.slice none 0 0) :=
  ⟨h 1 (by omega), h 2 (by omega), h 3 (by omega), h 0 (by omega)⟩
set_option maxRecDepth 100000 in
set_option maxHeartbeats 1000000 in
theorem of_any (b0 : Nat) (A B C : List Sp) (r : Int) (w : World) (hT : TabAt w b0 A B C) (hRA : Rgt A) (hRB : Rgt B) (hRC : Rgt C) (hG : GL w) :
    Calls Tryd.prog 75 #[.pointer (some ⟨b0, 0, none⟩), .int .i32 r] w fun e w' => e = .returned (.int .i64 (kindOf A B C r : Nat)) ∧ Below w.heap.size w w' := by
  obtain ⟨a, b, c, ca, cb, cc, hF, hA, hB, hC⟩ := hT
  have HA := fun wx (h : Lst wx a ca A) (hg : GL wx) => in_any a ca A r wx h.le h.cap h.at' hRA hg
  have HB := fun wx (h : Lst wx b cb B) (hg : GL wx) => in_any b cb B r wx h.le h.cap h.at' hRB hg
  have HC := fun wx (h : Lst wx c cc C) (hg : GL wx) => in_any c cc C r wx h.le h.cap h.at' hRC hg
  unfold kindOf
  obtain ⟨u, hu⟩ : ∃ u, u = inB A r := ⟨_, rfl⟩
  obtain ⟨v, hv⟩ : ∃ v, v = inB B r := ⟨_, rfl⟩
  obtain ⟨x, hx⟩ : ∃ x, x = inB C r := ⟨_, rfl⟩
  rw [← hu] at HA ⊢
  rw [← hv] at HB ⊢
  rw [← hx] at HC ⊢
  clear hu hv hx
  have hF0 := hF
  obtain ⟨c1, c2, c3⟩ := hF
  go_enter Tryd.func75, Tryd.ntmps75
  go_wp2_with fail
  refine (HA _ hA hG).mono ?_
  rintro e w1 ⟨rfl, hb1⟩
  have hF1 := Tri.below hF0 hb1
  have hB1 := hB.below hb1
  have hC1 := hC.below hb1
  have hG1 := hG.below hb1
  have hF1' := hF1
  obtain ⟨-, d2, d3⟩ := hF1'
  clear HA hF0 hA hB hC hG c1 c2 c3
  cases u with
  | true =>
    go_wp2_with fail
    go_ret
    exact ⟨rfl, hb1⟩
  | false =>
    go_wp2_with fail
    refine (HB _ hB1 hG1).mono ?_
    rintro e w2 ⟨rfl, hb2⟩
    have hC2 := hC1.below hb2
    have hG2 := hG1.below hb2
    obtain ⟨-, -, e3⟩ := hF1.below hb2
    have B2 := hb1.trans (hb2.mono hb1.size)
    clear HB hF1 hB1 hC1 hG1 d2 d3 hb1 hb2
    cases v with
    | true =>
      go_wp2_with fail
      go_ret
      exact ⟨rfl, B2⟩
    | false =>
      go_wp2_with fail
      refine (HC _ hC2 hG2).mono ?_
      rintro e w3 ⟨rfl, hb3⟩
      have B3 := B2.trans (hb3.mono B2.size)
      clear HC hC2 hG2 e3 hb3 B2
      cases x with
      | true =>
        go_wp2_with fail
        go_ret
        exact ⟨rfl, B3⟩
      | false =>
        go_wp2_with fail
        go_ret
        exact ⟨rfl, B3⟩
/-- The value of data, its three lists known. -/
def dtV (v0 v1 : Value) (a b c : Option Addr) (na ca nb cb nc cc : Nat) : Value := .agg #[v0, v1, .slice a na ca, .slice b nb cb, .slice c nc cc]
end Go.Proofs.YtlnebbciefdpoaaDoor
