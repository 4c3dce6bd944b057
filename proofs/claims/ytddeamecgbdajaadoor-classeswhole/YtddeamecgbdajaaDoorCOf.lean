/- classes.Table: Of, Kind, and the document's own: their contracts. -/
import Derived.Test.YtddeamecgbdajaaDoorCOver
import Derived.Test.YtddeamecgbdajaaDoorSIn
import Derived.Test.YtddeamecgbdajaaDoorSRefIn
namespace Go.Proofs.YtddeamecgbdajaaDoor
open Go.RowKit Go.Sort Go.Joins
/-- The three cells that are read. -/
def Tri (w : World) (b0 : Nat) (a b c : Option Addr) (ca cb cc : Nat) (A B C : List Sp) : Prop := w.cell? ⟨b0, 1, none⟩ = some (.slice a A.length ca) ∧ w.cell? ⟨b0, 2, none⟩ = some (.slice b B.length cb) ∧ w.cell? ⟨b0, 3, none⟩ = some (.slice c C.length cc)
theorem Tri.below {w w' : World} {b0 : Nat} {a b c : Option Addr} {ca cb cc : Nat} {A B C : List Sp} (h : Tri w b0 a b c ca cb cc A B C) (hb : Below w.heap.size w w') : Tri w' b0 a b c ca cb cc A B C :=
  ⟨(hb.cell (World.block_lt_of_cell? w _ h.1)).trans h.1, (hb.cell (World.block_lt_of_cell? w _ h.2.1)).trans h.2.1, (hb.cell (World.block_lt_of_cell? w _ h.2.2)).trans h.2.2⟩
theorem Four.tri {w : World} {b0 : Nat} {a b c : Option Addr} {ca cb cc : Nat} {A B C : List Sp} (h : Four w b0 a b c ca cb cc A B C) : Tri w b0 a b c ca cb cc A B C := ⟨h 1 (by omega), h 2 (by omega), h 3 (by omega)⟩
/-- A Table lies at block b0. -/
def TabAt (w : World) (b0 : Nat) (A B C : List Sp) : Prop := ∃ a b c ca cb cc, Tri w b0 a b c ca cb cc A B C ∧ Lst w a ca A ∧ Lst w b cb B ∧ Lst w c cc C
theorem TabAt.below {w w' : World} {b0 : Nat} {A B C : List Sp} (h : TabAt w b0 A B C) (hb : Below w.heap.size w w') : TabAt w' b0 A B C := by
  obtain ⟨a, b, c, ca, cb, cc, h1, h2, h3, h4⟩ := h
  exact ⟨a, b, c, ca, cb, cc, h1.below hb, h2.below hb, h3.below hb, h4.below hb⟩
theorem Four.one {w : World} {b0 : Nat} {a b c : Option Addr} {ca cb cc : Nat} {A B C : List Sp} (h : Four w b0 a b c ca cb cc A B C) : w.cell? ⟨b0, 1, none⟩ = some (.slice a A.length ca) ∧ w.cell? ⟨b0, 2, none⟩ = some (.slice b B.length cb) ∧ w.cell? ⟨b0, 3, none⟩ = some (.slice c C.length cc) ∧ w.cell? ⟨b0, 0, none⟩ = some (.slice none 0 0) :=
  ⟨h 1 (by omega), h 2 (by omega), h 3 (by omega), h 0 (by omega)⟩
set_option maxRecDepth 100000 in
set_option maxHeartbeats 1000000 in
theorem of_any (b0 : Nat) (A B C : List Sp) (r : Int) (w : World) (hT : TabAt w b0 A B C) (hRA : Rgt A) (hRB : Rgt B) (hRC : Rgt C) (hG : GL w) :
    Calls Tryd.prog 16 #[.pointer (some ⟨b0, 0, none⟩), .int .i32 r] w fun e w' => e = .returned (.int .i64 (kindOf A B C r : Nat)) ∧ Below w.heap.size w w' := by
  obtain ⟨a, b, c, ca, cb, cc, hF, hA, hB, hC⟩ := hT
  have HA := fun wx (h : Lst wx a ca A) (hg : GL wx) => in_any a ca A r wx h.le h.cap h.at' hRA hg
  have HB := fun wx (h : Lst wx b cb B) (hg : GL wx) => in_any b cb B r wx h.le h.cap h.at' hRB hg
  have HC := fun wx (h : Lst wx c cc C) (hg : GL wx) => in_any c cc C r wx h.le h.cap h.at' hRC hg
  unfold kindOf
  obtain ⟨u, hu⟩ : ∃ u, u = inB A r := ⟨_, rfl⟩
  obtain ⟨v, hv⟩ : ∃ v, v = inB B r := ⟨_, rfl⟩
  obtain ⟨x, hx⟩ : ∃ x, x = inB C r := ⟨_, rfl⟩
  rw [← hu] at HA ⊢
  rw [← hv] at HB ⊢
  rw [← hx] at HC ⊢
  clear hu hv hx
  have hF0 := hF
  obtain ⟨c1, c2, c3⟩ := hF
  go_enter Tryd.func16, Tryd.ntmps16
  go_wp2_with fail
  refine (HA _ hA hG).mono ?_
  rintro e w1 ⟨rfl, hb1⟩
  have hF1 := Tri.below hF0 hb1
  have hB1 := hB.below hb1
  have hC1 := hC.below hb1
  have hG1 := hG.below hb1
  have hF1' := hF1
  obtain ⟨-, d2, d3⟩ := hF1'
  clear HA hF0 hA hB hC hG c1 c2 c3
  cases u with
  | true =>
    go_wp2_with fail
    go_ret
    exact ⟨rfl, hb1⟩
  | false =>
    go_wp2_with fail
    refine (HB _ hB1 hG1).mono ?_
    rintro e w2 ⟨rfl, hb2⟩
    have hC2 := hC1.below hb2
    have hG2 := hG1.below hb2
    obtain ⟨-, -, e3⟩ := hF1.below hb2
    have B2 := hb1.trans (hb2.mono hb1.size)
    clear HB hF1 hB1 hC1 hG1 d2 d3 hb1 hb2
    cases v with
    | true =>
      go_wp2_with fail
      go_ret
      exact ⟨rfl, B2⟩
    | false =>
      go_wp2_with fail
      refine (HC _ hC2 hG2).mono ?_
      rintro e w3 ⟨rfl, hb3⟩
      have B3 := B2.trans (hb3.mono B2.size)
      clear HC hC2 hG2 e3 hb3 B2
      cases x with
      | true =>
        go_wp2_with fail
        go_ret
        exact ⟨rfl, B3⟩
      | false =>
        go_wp2_with fail
        go_ret
        exact ⟨rfl, B3⟩
/-- An item's kind. -/
def kindIt (A B C : List Sp) (r : Int) (bad : Bool) : Nat := if bad then 4 else kindOf A B C r
set_option maxRecDepth 100000 in
set_option maxHeartbeats 1000000 in
theorem kind_any (b0 : Nat) (A B C : List Sp) (fr n r : Int) (bad : Bool) (w : World) (hT : TabAt w b0 A B C) (hRA : Rgt A) (hRB : Rgt B) (hRC : Rgt C) (hG : GL w) :
    Calls Tryd.prog 18 #[.pointer (some ⟨b0, 0, none⟩), .agg #[.int .i64 fr, .int .i64 n, .int .i32 r, .bool bad]] w fun e w' => e = .returned (.int .i64 (kindIt A B C r bad : Nat)) ∧ Below w.heap.size w w' := by
  have hb0 := (Below.refl w.heap.size w).alloc (Nat.le_refl _) (.cells #[.int .i64 fr, .int .i64 n, .int .i32 r, .bool bad] 51)
  have H := of_any b0 A B C r _ (hT.below hb0) hRA hRB hRC (hG.below hb0)
  unfold kindIt
  obtain ⟨k, hk⟩ : ∃ k, k = kindOf A B C r := ⟨_, rfl⟩
  rw [← hk] at H ⊢
  clear hk hT hRA hRB hRC hG
  cases bad with
  | true =>
    go_enter Tryd.func18, Tryd.ntmps18
    go_wp2_with fail
    go_ret
    exact ⟨rfl, hb0⟩
  | false =>
    go_enter Tryd.func18, Tryd.ntmps18
    go_wp2_with fail
    refine H.mono ?_
    rintro e w1 ⟨rfl, hb1⟩
    go_wp2_with fail
    go_ret
    exact ⟨rfl, hb0.trans (hb1.mono hb0.size)⟩
/-- The value of data, its three lists known. -/
def dtV (v0 v1 : Value) (a b c : Option Addr) (na ca nb cb nc cc : Nat) : Value := .agg #[v0, v1, .slice a na ca, .slice b nb cb, .slice c nc cc]
set_option maxRecDepth 100000 in
set_option maxHeartbeats 1000000 in
theorem refOf_any (s0 s1 a b c : Option Addr) (n0 c0 n1 c1 ca cb cc : Nat) (A B C : List Sp) (r : Int) (w : World) (hA : Lst w a ca A) (hB : Lst w b cb B) (hC : Lst w c cc C) :
    Calls Tryd.prog 17 #[dtV (.slice s0 n0 c0) (.slice s1 n1 c1) a b c A.length ca B.length cb C.length cc, .int .i32 r] w fun e w' => e = .returned (.int .i64 (kindOf A B C r : Nat)) ∧ Below w.heap.size w w' := by
  have hb0 := (Below.refl w.heap.size w).alloc (Nat.le_refl _) (.cells #[.slice s0 n0 c0, .slice s1 n1 c1, .slice a A.length ca, .slice b B.length cb, .slice c C.length cc] 47)
  have HA := fun wx (h : Lst wx a ca A) => refIn_any a ca A r wx h.len h.at'
  have HB := fun wx (h : Lst wx b cb B) => refIn_any b cb B r wx h.len h.at'
  have HC := fun wx (h : Lst wx c cc C) => refIn_any c cc C r wx h.len h.at'
  have hA0 := hA.below hb0
  have hB0 := hB.below hb0
  have hC0 := hC.below hb0
  have hX := heap_alloc_new w (.cells #[.slice s0 n0 c0, .slice s1 n1 c1, .slice a A.length ca, .slice b B.length cb, .slice c C.length cc] 47)
  unfold kindOf dtV
  obtain ⟨u, hu⟩ : ∃ u, u = inB A r := ⟨_, rfl⟩
  obtain ⟨v, hv⟩ : ∃ v, v = inB B r := ⟨_, rfl⟩
  obtain ⟨x, hx⟩ : ∃ x, x = inB C r := ⟨_, rfl⟩
  rw [← hu] at HA ⊢
  rw [← hv] at HB ⊢
  rw [← hx] at HC ⊢
  clear hu hv hx
  have HX : Hid ((w.alloc (.cells #[.slice s0 n0 c0, .slice s1 n1 c1, .slice a A.length ca, .slice b B.length cb, .slice c C.length cc] 47)).heap[w.heap.size]? = some (.cells #[.slice s0 n0 c0, .slice s1 n1 c1, .slice a A.length ca, .slice b B.length cb, .slice c C.length cc] 47 (0, 0))) := hX
  have hlt : Hid (w.heap.size < (w.alloc (.cells #[.slice s0 n0 c0, .slice s1 n1 c1, .slice a A.length ca, .slice b B.length cb, .slice c C.length cc] 47)).heap.size) := by show _ < _; simp
  clear hA hB hC hX
  go_enter Tryd.func17, Tryd.ntmps17
  go_wp2_with fail
  refine (HA _ hA0).mono ?_
  rintro e w1 ⟨rfl, hb1⟩
  have hB1 := hB0.below hb1
  have hC1 := hC0.below hb1
  have B1 := hb0.trans (hb1.mono hb0.size)
  have hX1 := (hb1.block _ hlt.out).trans HX.out
  have x3 := cell_of_block hX1 (i := 3)
  have x4 := cell_of_block hX1 (i := 4)
  have hlt1 : Hid (w.heap.size < w1.heap.size) := Nat.lt_of_lt_of_le hlt.out hb1.size
  clear HA hA0 hB0 hC0 hb0 hb1 HX hlt
  have HX1 : Hid (w1.heap[w.heap.size]? = some (.cells #[.slice s0 n0 c0, .slice s1 n1 c1, .slice a A.length ca, .slice b B.length cb, .slice c C.length cc] 47 (0, 0))) := hX1
  clear hX1
  cases u with
  | true =>
    go_wp2_with fail
    go_ret
    exact ⟨rfl, B1⟩
  | false =>
    go_wp2_with fail
    refine (HB _ hB1).mono ?_
    rintro e w2 ⟨rfl, hb2⟩
    have hC2 := hC1.below hb2
    have B2 := B1.trans (hb2.mono B1.size)
    have hX2 := (hb2.block _ hlt1.out).trans HX1.out
    have y4 := cell_of_block hX2 (i := 4)
    clear HB hB1 hC1 B1 hb2 HX1 hlt1 x3 x4 hX2
    cases v with
    | true =>
      go_wp2_with fail
      go_ret
      exact ⟨rfl, B2⟩
    | false =>
      go_wp2_with fail
      refine (HC _ hC2).mono ?_
      rintro e w3 ⟨rfl, hb3⟩
      have B3 := B2.trans (hb3.mono B2.size)
      clear HC hC2 hb3 B2 y4
      cases x with
      | true =>
        go_wp2_with fail
        go_ret
        exact ⟨rfl, B3⟩
      | false =>
        go_wp2_with fail
        go_ret
        exact ⟨rfl, B3⟩
set_option maxRecDepth 100000 in
set_option maxHeartbeats 1000000 in
theorem refKind_any (s0 s1 a b c : Option Addr) (n0 c0 n1 c1 ca cb cc : Nat) (A B C : List Sp) (fr n r : Int) (bad : Bool) (w : World) (hA : Lst w a ca A) (hB : Lst w b cb B) (hC : Lst w c cc C) :
    Calls Tryd.prog 19 #[dtV (.slice s0 n0 c0) (.slice s1 n1 c1) a b c A.length ca B.length cb C.length cc, .agg #[.int .i64 fr, .int .i64 n, .int .i32 r, .bool bad]] w fun e w' => e = .returned (.int .i64 (kindIt A B C r bad : Nat)) ∧ Below w.heap.size w w' := by
  have hb0 := (Below.refl w.heap.size w).alloc (Nat.le_refl _) (.cells #[.slice s0 n0 c0, .slice s1 n1 c1, .slice a A.length ca, .slice b B.length cb, .slice c C.length cc] 47)
  have hb1 := hb0.alloc (by simp) (.cells #[.int .i64 fr, .int .i64 n, .int .i32 r, .bool bad] 56)
  have H := refOf_any s0 s1 a b c n0 c0 n1 c1 ca cb cc A B C r _ (hA.below hb1) (hB.below hb1) (hC.below hb1)
  unfold dtV at H ⊢
  unfold kindIt
  obtain ⟨k, hk⟩ : ∃ k, k = kindOf A B C r := ⟨_, rfl⟩
  rw [← hk] at H ⊢
  clear hk hA hB hC
  cases bad with
  | true =>
    go_enter Tryd.func19, Tryd.ntmps19
    go_wp2_with fail
    go_ret
    exact ⟨rfl, hb1⟩
  | false =>
    go_enter Tryd.func19, Tryd.ntmps19
    go_wp2_with fail
    refine H.mono ?_
    rintro e w1 ⟨rfl, hb2⟩
    go_wp2_with fail
    go_ret
    exact ⟨rfl, hb1.trans (hb2.mono hb1.size)⟩
end Go.Proofs.YtddeamecgbdajaaDoor
