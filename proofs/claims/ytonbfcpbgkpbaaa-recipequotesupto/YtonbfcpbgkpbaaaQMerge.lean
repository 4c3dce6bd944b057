/- recipe's parser.merge: its contract. -/
import Derived.Test.YtonbfcpbgkpbaaaQSpans2
import Derived.Test.YtonbfcpbgkpbaaaRHeld
namespace Go.Proofs.Ytonbfcpbgkpbaaa
open Go.RowKit Go.Sort Go.Joins
set_option linter.unusedVariables false
set_option linter.unusedSimpArgs false
set_option maxRecDepth 100000
def encT (t : Tok) : List Value := [.int .i64 (t.k : Nat), .int .i64 (t.at' : Nat), .string (textOf t.s)]
def encW (x : Wr) : List Value := encT x.l ++ encT x.r ++ encT x.i
theorem encW_length (x : Wr) : (encW x).length = 9 := rfl
theorem encW_one (x : Wr) : ∀ v ∈ encW x, v.oneCell' = true := by
  intro v hv
  simp [encW, encT] at hv
  rcases hv with rfl | rfl | rfl | rfl | rfl | rfl | rfl | rfl | rfl <;> rfl
theorem infoWr : (Try.prog.info? 105).map (fun i => (i.zero, i.size, i.bytes)) = some (some (.agg #[.int .i64 0, .int .i64 0, .string ⟨#[]⟩, .int .i64 0, .int .i64 0, .string ⟨#[]⟩, .int .i64 0, .int .i64 0, .string ⟨#[]⟩]), 9, 96) := by kernel_rfl
/-- A merge as it is written lies at block x. -/
def XB (w : World) (x : Nat) (l r i : Tok) : Prop := w.heap[x]? = some (.cells (encW ⟨l, r, i⟩).toArray 105 (0, 0))
theorem XB.set3 {w : World} {x : Nat} {l r i t : Tok} (h : XB w x l r i) : XB (((w.setCell ⟨x, 0, none⟩ (.int .i64 (t.k : Nat))).setCell ⟨x, 1, none⟩ (.int .i64 (t.at' : Nat))).setCell ⟨x, 2, none⟩ (.string (textOf t.s))) x t r i ∧
    XB (((w.setCell ⟨x, 3, none⟩ (.int .i64 (t.k : Nat))).setCell ⟨x, 4, none⟩ (.int .i64 (t.at' : Nat))).setCell ⟨x, 5, none⟩ (.string (textOf t.s))) x l t i ∧
    XB (((w.setCell ⟨x, 6, none⟩ (.int .i64 (t.k : Nat))).setCell ⟨x, 7, none⟩ (.int .i64 (t.at' : Nat))).setCell ⟨x, 8, none⟩ (.string (textOf t.s))) x l r t :=
  ⟨block_setCell (i := 2) (block_setCell (i := 1) (block_setCell (i := 0) h _) _) _, block_setCell (i := 5) (block_setCell (i := 4) (block_setCell (i := 3) h _) _) _, block_setCell (i := 8) (block_setCell (i := 7) (block_setCell (i := 6) h _) _) _⟩
theorem heap_three {w : World} {b : Nat} {x : Nat} {i j k : Nat} {u0 u1 u2 : Value} (hb : b ≠ x) : (((w.setCell ⟨x, i, none⟩ u0).setCell ⟨x, j, none⟩ u1).setCell ⟨x, k, none⟩ u2).heap[b]? = w.heap[b]? :=
  (Below.heap_setCell _ _ _ _ hb).trans ((Below.heap_setCell _ _ _ _ hb).trans (Below.heap_setCell _ _ _ _ hb))
theorem But.threeX {g B : Nat} {w w' : World} (h : But g B w w') {z : Nat} (hz : B ≤ z) {i j k : Nat} (u0 u1 u2 : Value) : But g B w (((w'.setCell ⟨z, i, none⟩ u0).setCell ⟨z, j, none⟩ u1).setCell ⟨z, k, none⟩ u2) :=
  ((h.above (p := ⟨z, i, none⟩) hz u0).above (p := ⟨z, j, none⟩) hz u1).above (p := ⟨z, k, none⟩) hz u2
theorem take_plain (g : Nat) (src : ByteArray) (st : PS) (d : DV) (k : Nat) (w : World) (h : PX w g src st d) (hs : src.size ≤ 4194304) (hk : k ≤ 5) :
    Calls Try.prog 42 #[.pointer (some ⟨g, 0, none⟩), .int .i64 (k : Nat), .slice none 0 0] w (TakePost w g src d (takeP (mEmpty k) st)) := by
  have hT := take_any g src st d k none 0 [] w h (.inl rfl) (by simp) hs hk
  rw [mW_nil] at hT
  exact hT
theorem PX.cellM {w : World} {g : Nat} {src : ByteArray} {st : PS} {d : DV} (h : PX w g src st d) : w.cell? ⟨g, 5, none⟩ = some d.M ∧ w.frozen? ⟨g, 5, none⟩ = false := by
  obtain ⟨z, hP, hr, rfl⟩ := h
  exact ⟨hP.c5, hP.free _⟩
theorem PX.putM {w : World} {g : Nat} {src : ByteArray} {st : PS} {d : DV} (h : PX w g src st d) (v : Value) : PX (w.setCell ⟨g, 5, none⟩ v) g src st { d with M := v } := by
  obtain ⟨z, hP, hr, rfl⟩ := h
  exact ⟨_, hP.setM v, hr, rfl⟩
/-- One merge is laid behind the others. -/
theorem wr_app (wr : World) (base : Nat) (v : Value) (l : List Wr) (x : Wr) (hown : OwnG 105 9 encW wr base v l) (hb : base ≤ wr.heap.size) (hl : l.length ≤ 8388608) :
    ∃ v' w', (Builtin.append_ #[77, 77] 77 #[v, .slice (some ⟨wr.heap.size, 0, none⟩) 1 1]).run Try.prog (wr.alloc (.cells (encW x).toArray 105)) = .ok v' w' ∧ OwnG 105 9 encW w' base v' (l ++ [x]) ∧ Bu wr.heap.size v.ownBlock wr.heap.size wr w' ∧ Moved v v' wr.heap.size := by
  obtain ⟨i0, hi0, hz0, hz1, hz2⟩ := info_parts infoWr
  have bx := box_below wr (.cells (encW x).toArray 105)
  obtain ⟨v', w', h1, h2, h3, h4⟩ := run_own_g 77 105 i0 _ 9 96 encW encW_length (by omega) encW_one Try.underlying77 hi0 hz0 hz1 hz2 rfl (wr.alloc (.cells (encW x).toArray 105)) base v l x wr.heap.size 1 (hown.below bx (Nat.le_refl _)) (heap_alloc_new wr _) (by simp; omega) (by omega) (by omega)
  refine ⟨v', w', h1, h2, ⟨h3.os.trans bx.os, h3.tape.trans bx.tape, h3.output.trans bx.output, Nat.le_trans bx.size h3.size, fun k hk hne ho => (h3.block k (by have := bx.size; omega) ho).trans (bx.block k hk)⟩, fun b hbb => ?_⟩
  rcases h4 b hbb with h | h
  · exact .inl h
  · exact .inr (Nat.le_trans bx.size h)
set_option maxHeartbeats 2000000 in
theorem merge_any (g base : Nat) (src : ByteArray) (st : PS) (d : DV) (l0 : List Wr) (w : World) (h : PX w g src st d) (ht : Toks st) (hs : src.size ≤ 4194304) (hown : OwnG 105 9 encW w base d.M l0) (hg : g < base) (hbase : base ≤ w.heap.size) (hl : l0.length ≤ 8388608) :
    Calls Try.prog 43 #[.pointer (some ⟨g, 0, none⟩)] w fun e w' => e = .returned (.tuple #[]) ∧ ∃ v, PX w' g src (mergeP st).2 { d with M := v } ∧ OwnG 105 9 encW w' base v (l0 ++ [(mergeP st).1]) ∧ Bu g d.M.ownBlock w.heap.size w w' ∧ Moved d.M v w.heap.size ∧ Toks (mergeP st).2 := by
  have bx := box_below w (.cells #[.int .i64 0, .int .i64 0, .string ⟨#[]⟩, .int .i64 0, .int .i64 0, .string ⟨#[]⟩, .int .i64 0, .int .i64 0, .string ⟨#[]⟩] 105)
  have hX : XB (w.alloc (.cells #[.int .i64 0, .int .i64 0, .string ⟨#[]⟩, .int .i64 0, .int .i64 0, .string ⟨#[]⟩, .int .i64 0, .int .i64 0, .string ⟨#[]⟩] 105)) w.heap.size zeroT zeroT zeroT := heap_alloc_new w _
  have hP := h.below bx h.lt
  have hlt := h.lt
  obtain ⟨W, hW⟩ : ∃ W, W = w.alloc (.cells #[.int .i64 0, .int .i64 0, .string ⟨#[]⟩, .int .i64 0, .int .i64 0, .string ⟨#[]⟩, .int .i64 0, .int .i64 0, .string ⟨#[]⟩] 105) := ⟨_, rfl⟩
  have hsW : W.heap.size = w.heap.size + 1 := by rw [hW]; simp
  rw [← hW] at bx hX hP
  have HW := Lib.hid hW
  have HMP : Hid (mergeP st = (⟨(takeP (mEmpty 4) st).1, (takeP (mEmpty 4) (takeP (sgn sPlus) (takeP (mEmpty 4) st).2).2).1, (takeP (mEmpty 2) (takeP (sgn sEq) (takeP (mEmpty 4) (takeP (sgn sPlus) (takeP (mEmpty 4) st).2).2).2).2).1⟩, (takeP (mEmpty 2) (takeP (sgn sEq) (takeP (mEmpty 4) (takeP (sgn sPlus) (takeP (mEmpty 4) st).2).2).2).2).2)) := Lib.hid rfl
  have hT : Toks (mergeP st).2 := by
    rw [HMP.out]
    exact (((((ht.take _).1.take _).1.take _).1.take _).1.take _).1
  have HT := Lib.hid hT
  have H1 := take_plain g src st d 4 W hP hs (by omega)
  obtain ⟨⟨t1, s1⟩, hr⟩ : ∃ r, r = takeP (mEmpty 4) st := ⟨_, rfl⟩
  rw [← hr] at H1 HMP
  simp only at HMP
  have HB0 := Lib.hid bx
  have HSW := Lib.hid hsW
  have HO := Lib.hid hown
  obtain ⟨x, hx⟩ : ∃ x, x = w.heap.size := ⟨_, rfl⟩
  rw [← hx] at hX
  have HX0 := Lib.hid hX
  have HXX := Lib.hid hx
  clear hr h hX bx hP hown hsW hW hT ht
  go_enter Try.func43, Try.ntmps43
  go_wp2_with fail
  rw [← HW.out, ← hx]
  clear hx
  refine H1.mono ?_
  rintro e w1 ⟨rfl, hP1, hb1⟩
  have hX1 : XB w1 x zeroT zeroT zeroT := (hb1.2.2.2.2 x (by have := HSW.out; have := HXX.out; omega) (by have := HXX.out; omega)).trans HX0.out
  have hB1 := (But.of_below (b := g) HB0.out).trans (hb1.mono (by have := HSW.out; omega))
  clear H1 hb1
  have hXs := (XB.set3 (t := t1) hX1).1
  have x0 : w1.cell? ⟨x, 0, none⟩ = some (.int .i64 0) := (cell_of_block hX1 0).trans rfl
  have x1 : w1.cell? ⟨x, 1, none⟩ = some (.int .i64 0) := (cell_of_block hX1 1).trans rfl
  have x2 : w1.cell? ⟨x, 2, none⟩ = some (.string ⟨#[]⟩) := (cell_of_block hX1 2).trans rfl
  have f0 := fun j => unfrozen_of_block hX1 j
  have hPs : PX (((w1.setCell ⟨x, 0, none⟩ (.int .i64 (t1.k : Nat))).setCell ⟨x, 1, none⟩ (.int .i64 (t1.at' : Nat))).setCell ⟨x, 2, none⟩ (.string (textOf t1.s))) g src s1 d := hP1.bu (heap_three (by have := HXX.out; omega))
  have hBs := hB1.threeX (z := x) (i := 0) (j := 1) (k := 2) (by have := HXX.out; omega) (.int .i64 (t1.k : Nat)) (.int .i64 (t1.at' : Nat)) (.string (textOf t1.s))
  have hszs : (((w1.setCell ⟨x, 0, none⟩ (.int .i64 (t1.k : Nat))).setCell ⟨x, 1, none⟩ (.int .i64 (t1.at' : Nat))).setCell ⟨x, 2, none⟩ (.string (textOf t1.s))).heap.size = w1.heap.size := by simp
  obtain ⟨v1, hv1⟩ : ∃ v, v = ((w1.setCell ⟨x, 0, none⟩ (.int .i64 (t1.k : Nat))).setCell ⟨x, 1, none⟩ (.int .i64 (t1.at' : Nat))).setCell ⟨x, 2, none⟩ (.string (textOf t1.s)) := ⟨_, rfl⟩
  rw [← hv1] at hXs hPs hBs hszs
  have HV1 := Lib.hid hv1
  have HXs := Lib.hid hXs
  have HPs := Lib.hid hPs
  have HBs := Lib.hid hBs
  have H2 := take_sign sPlus ⟨#[43]⟩ rfl g src s1 d v1 hPs hs
  rw [hszs] at H2
  obtain ⟨⟨t2, s2⟩, hr⟩ : ∃ r, r = takeP (sgn sPlus) s1 := ⟨_, rfl⟩
  rw [← hr] at H2 HMP
  simp only at HMP
  clear hr hX1 hP1 hB1 hXs hPs hBs hszs hv1
  unfold tokV
  go_wp2_with fail
  rw [← HV1.out]
  refine H2.mono ?_
  rintro e w2 ⟨rfl, hP2, hb⟩
  have hX2 := (hb.2.2.2.2 x (by have h0 : x < v1.heap.size := (Array.getElem?_eq_some_iff.1 HXs.out).1
                                exact h0) (by have := HXX.out; omega)).trans HXs.out
  have hB2 := HBs.out.trans (hb.mono HBs.out.size)
  clear H2 hb x0 x1 x2 f0 HXs HPs HBs
  have H3 := take_plain g src s2 d 4 w2 hP2 hs (by omega)
  obtain ⟨⟨t3, s3⟩, hr⟩ : ∃ r, r = takeP (mEmpty 4) s2 := ⟨_, rfl⟩
  rw [← hr] at H3 HMP
  simp only at HMP
  clear hr
  go_wp2_with fail
  refine H3.mono ?_
  rintro e w3 ⟨rfl, hP3, hb⟩
  have hX3 := (hb.2.2.2.2 x (by have h0 : x < w2.heap.size := (Array.getElem?_eq_some_iff.1 hX2).1
                                exact h0) (by have := HXX.out; omega)).trans hX2
  have hB3 := hB2.trans (hb.mono hB2.size)
  clear H3 hb hX2 hP2 hB2
  have hXs := (XB.set3 (t := t3) hX3).2.1
  have x0 : w3.cell? ⟨x, 3, none⟩ = some (.int .i64 0) := (cell_of_block hX3 3).trans rfl
  have x1 : w3.cell? ⟨x, 4, none⟩ = some (.int .i64 0) := (cell_of_block hX3 4).trans rfl
  have x2 : w3.cell? ⟨x, 5, none⟩ = some (.string ⟨#[]⟩) := (cell_of_block hX3 5).trans rfl
  have f0 := fun j => unfrozen_of_block hX3 j
  have hPs : PX (((w3.setCell ⟨x, 3, none⟩ (.int .i64 (t3.k : Nat))).setCell ⟨x, 4, none⟩ (.int .i64 (t3.at' : Nat))).setCell ⟨x, 5, none⟩ (.string (textOf t3.s))) g src s3 d := hP3.bu (heap_three (by have := HXX.out; omega))
  have hBs := hB3.threeX (z := x) (i := 3) (j := 4) (k := 5) (by have := HXX.out; omega) (.int .i64 (t3.k : Nat)) (.int .i64 (t3.at' : Nat)) (.string (textOf t3.s))
  have hszs : (((w3.setCell ⟨x, 3, none⟩ (.int .i64 (t3.k : Nat))).setCell ⟨x, 4, none⟩ (.int .i64 (t3.at' : Nat))).setCell ⟨x, 5, none⟩ (.string (textOf t3.s))).heap.size = w3.heap.size := by simp
  obtain ⟨v3, hv3⟩ : ∃ v, v = ((w3.setCell ⟨x, 3, none⟩ (.int .i64 (t3.k : Nat))).setCell ⟨x, 4, none⟩ (.int .i64 (t3.at' : Nat))).setCell ⟨x, 5, none⟩ (.string (textOf t3.s)) := ⟨_, rfl⟩
  rw [← hv3] at hXs hPs hBs hszs
  have HV3 := Lib.hid hv3
  have HXs := Lib.hid hXs
  have HPs := Lib.hid hPs
  have HBs := Lib.hid hBs
  have H4 := take_sign sEq ⟨#[61]⟩ rfl g src s3 d v3 hPs hs
  rw [hszs] at H4
  obtain ⟨⟨t4, s4⟩, hr⟩ : ∃ r, r = takeP (sgn sEq) s3 := ⟨_, rfl⟩
  rw [← hr] at H4 HMP
  simp only at HMP
  clear hr hX3 hP3 hB3 hXs hPs hBs hszs hv3
  unfold tokV
  go_wp2_with fail
  rw [← HV3.out]
  refine H4.mono ?_
  rintro e w4 ⟨rfl, hP4, hb⟩
  have hX4 := (hb.2.2.2.2 x (by have h0 : x < v3.heap.size := (Array.getElem?_eq_some_iff.1 HXs.out).1
                                exact h0) (by have := HXX.out; omega)).trans HXs.out
  have hB4 := HBs.out.trans (hb.mono HBs.out.size)
  clear H4 hb x0 x1 x2 f0 HXs HPs HBs
  have H5 := take_plain g src s4 d 2 w4 hP4 hs (by omega)
  obtain ⟨⟨t5, s5⟩, hr⟩ : ∃ r, r = takeP (mEmpty 2) s4 := ⟨_, rfl⟩
  rw [← hr] at H5 HMP
  simp only at HMP
  clear hr
  go_wp2_with fail
  refine H5.mono ?_
  rintro e w5 ⟨rfl, hP5, hb⟩
  have hX5 := (hb.2.2.2.2 x (by have h0 : x < w4.heap.size := (Array.getElem?_eq_some_iff.1 hX4).1
                                exact h0) (by have := HXX.out; omega)).trans hX4
  have hB5 := hB4.trans (hb.mono hB4.size)
  clear H5 hb hX4 hP4 hB4
  have hXs := (XB.set3 (t := t5) hX5).2.2
  have x0 : w5.cell? ⟨x, 6, none⟩ = some (.int .i64 0) := (cell_of_block hX5 6).trans rfl
  have x1 : w5.cell? ⟨x, 7, none⟩ = some (.int .i64 0) := (cell_of_block hX5 7).trans rfl
  have x2 : w5.cell? ⟨x, 8, none⟩ = some (.string ⟨#[]⟩) := (cell_of_block hX5 8).trans rfl
  have f0 := fun j => unfrozen_of_block hX5 j
  have hPs : PX (((w5.setCell ⟨x, 6, none⟩ (.int .i64 (t5.k : Nat))).setCell ⟨x, 7, none⟩ (.int .i64 (t5.at' : Nat))).setCell ⟨x, 8, none⟩ (.string (textOf t5.s))) g src s5 d := hP5.bu (heap_three (by have := HXX.out; omega))
  have hBs := hB5.threeX (z := x) (i := 6) (j := 7) (k := 8) (by have := HXX.out; omega) (.int .i64 (t5.k : Nat)) (.int .i64 (t5.at' : Nat)) (.string (textOf t5.s))
  have hszs : (((w5.setCell ⟨x, 6, none⟩ (.int .i64 (t5.k : Nat))).setCell ⟨x, 7, none⟩ (.int .i64 (t5.at' : Nat))).setCell ⟨x, 8, none⟩ (.string (textOf t5.s))).heap.size = w5.heap.size := by simp
  obtain ⟨v5, hv5⟩ : ∃ v, v = ((w5.setCell ⟨x, 6, none⟩ (.int .i64 (t5.k : Nat))).setCell ⟨x, 7, none⟩ (.int .i64 (t5.at' : Nat))).setCell ⟨x, 8, none⟩ (.string (textOf t5.s)) := ⟨_, rfl⟩
  rw [← hv5] at hXs hPs hBs hszs
  have HV5 := Lib.hid hv5
  have HXs := Lib.hid hXs
  have HPs := Lib.hid hPs
  have HBs := Lib.hid hBs
  clear hX5 hP5 hB5
  unfold tokV
  obtain ⟨hcm, hfm⟩ := hPs.cellM
  have hO5 := HO.out.but HBs.out (Nat.le_refl _) hg
  have hsz5 := HBs.out.size
  have hd : Below v5.heap.size v5 v5.drew := (Below.refl _ _).drew
  obtain ⟨mv, hmv⟩ : ∃ v, v = d.M := ⟨_, rfl⟩
  have hmx : ∀ i, mv.ownBlock = some i → i < x := fun i hi => by have := (HO.out.block (by rw [← hmv]; exact hi)).2.1; have := HXX.out; omega
  rw [← hmv] at hcm hO5
  have hOd := hO5.below hd (Nat.le_refl _)
  obtain ⟨v', w6, hr6, hO6, hB6, hM6⟩ := wr_app v5.drew base mv l0 ⟨t1, t3, t5⟩ hOd (Nat.le_trans (Nat.le_trans hbase hsz5) hd.size) hl
  have hds : v5.drew.heap.size = v5.heap.size := by simp
  rw [hds] at hr6 hB6 hM6
  have hlt5 := hPs.lt
  have hgk : w6.heap[g]? = v5.heap[g]? := (hB6.block g (by omega) (by omega) (fun e => by have := (hO5.block e.symm).1; omega)).trans (hd.block g (by omega))
  have hx5 : x < v5.heap.size := (Array.getElem?_eq_some_iff.1 hXs).1
  have hxk : w6.heap[x]? = v5.heap[x]? := (hB6.block x (by omega) (by omega) (fun e => by have := hmx x e.symm; omega)).trans (hd.block x hx5)
  have hP6 : PX w6 g src s5 d := hPs.bu hgk
  have hX6 : XB w6 x t1 t3 t5 := hxk.trans hXs
  obtain ⟨hcm6, hfm6⟩ := hP6.cellM
  rw [← hmv] at hcm6
  obtain ⟨gg, n, cap, hv, hn⟩ := hO6.form (by simp)
  subst hv
  have hP7 := hP6.putM (.slice (some ⟨gg, 0, none⟩) n cap)
  have hO7 := hO6.but ((But.refl g w6.heap.size w6).setCell 5 (.slice (some ⟨gg, 0, none⟩) n cap)) (Nat.le_refl _) hg
  have hB7 : Bu g mv.ownBlock w.heap.size w w6 := ⟨hB6.os.trans (hd.os.trans HBs.out.1), hB6.tape.trans (hd.tape.trans HBs.out.2.1), hB6.output.trans (hd.output.trans HBs.out.2.2.1), Nat.le_trans (Nat.le_trans hsz5 hd.size) hB6.size, fun k hk hkg hko => (hB6.block k (by omega) (by omega) hko).trans ((hd.block k (by omega)).trans (HBs.out.2.2.2.2 k hk hkg))⟩
  have hM7 : Moved mv (.slice (some ⟨gg, 0, none⟩) n cap) w.heap.size := fun b hb => by
    rcases hM6 b hb with h1 | h1
    · exact .inl h1
    · exact .inr (by omega)
  have HP7 := Lib.hid hP7
  have HO7 := Lib.hid hO7
  have HB7 := Lib.hid (hB7.setCell 5 (.slice (some ⟨gg, 0, none⟩) n cap))
  have HM7 := Lib.hid hM7
  have HMV := Lib.hid hmv
  have hS : (fun w' : World => w'.cell? ⟨g, 5, none⟩ = some mv ∧ XB w' x t1 t3 t5) v5.drew := ⟨by simpa using hcm, (hd.block x hx5).trans hXs⟩
  have hS : v5.drew.cell? ⟨g, 5, none⟩ = some mv ∧ XB v5.drew x t1 t3 t5 := hS
  have HX6 := Lib.hid hX6
  have hr6 : (Builtin.append_ #[77, 77] 77 #[mv, .slice (some ⟨v5.heap.size, 0, none⟩) 1 1]).run Try.prog (v5.drew.alloc (.cells #[.int .i64 (t1.k : Nat), .int .i64 (t1.at' : Nat), .string (textOf t1.s), .int .i64 (t3.k : Nat), .int .i64 (t3.at' : Nat), .string (textOf t3.s), .int .i64 (t5.k : Nat), .int .i64 (t5.at' : Nat), .string (textOf t5.s)] 105)) = .ok (.slice (some ⟨gg, 0, none⟩) n cap) w6 := hr6
  have hSA : (v5.drew.alloc (.cells #[.int .i64 (t1.k : Nat), .int .i64 (t1.at' : Nat), .string (textOf t1.s), .int .i64 (t3.k : Nat), .int .i64 (t3.at' : Nat), .string (textOf t3.s), .int .i64 (t5.k : Nat), .int .i64 (t5.at' : Nat), .string (textOf t5.s)] 105)).cell? ⟨g, 5, none⟩ = some mv ∧ XB (v5.drew.alloc (.cells #[.int .i64 (t1.k : Nat), .int .i64 (t1.at' : Nat), .string (textOf t1.s), .int .i64 (t3.k : Nat), .int .i64 (t3.at' : Nat), .string (textOf t3.s), .int .i64 (t5.k : Nat), .int .i64 (t5.at' : Nat), .string (textOf t5.s)] 105)) x t1 t3 t5 := ⟨cell_alloc_s hS.1 _, ((box_below v5.drew _).block x (by rw [hds]; exact hx5)).trans hS.2⟩
  have HSA := Lib.hid hSA
  have HR6 := Lib.hid hr6
  have HCM6 := Lib.hid hcm6
  have hfm6' := hfm6
  clear hXs hPs hBs hszs hv5 hO5 hOd hd hO6 hB6 hM6 hgk hxk hP6 hX6 hn hP7 hO7 hB7 hM7 hmv hmx hcm hfm hSA hr6 hcm6 hfm6 HXs HPs HBs hsz5
  go_upto_region 6 with fail
  rw [← HV5.out]
  refine wp_region_heldtail 8 (fun w' : World => w'.cell? ⟨g, 5, none⟩ = some mv ∧ XB w' x t1 t3 t5) (by kernel_rfl) (by kernel_rfl) ?_
  refine HL_take (i := 0) (.pointer (some ⟨g, 0, none⟩)) (by kernel_rfl) rfl (by omega) (by kernel_rfl) (by kernel_rfl) (by kernel_rfl) (fun _ _ _ h => h) (.inl ⟨by kernel_rfl, fun w' hw' => by obtain ⟨u0, u1⟩ := hw'; go_simp⟩) hS ?_
  simp only [Act.put, List.setIfInBounds_toArray, List.set_cons_zero, List.set_cons_succ]
  refine HL_take (i := 1) (.pointer (some ⟨g, 0, none⟩)) (by kernel_rfl) rfl (by omega) (by kernel_rfl) (by kernel_rfl) (by kernel_rfl) (fun _ _ _ h => h) (.inl ⟨by kernel_rfl, fun w' hw' => by obtain ⟨u0, u1⟩ := hw'; go_simp⟩) hS ?_
  simp only [Act.put, List.setIfInBounds_toArray, List.set_cons_zero, List.set_cons_succ]
  refine HL_take (i := 2) (.pointer (some ⟨g, 0, none⟩)) (by kernel_rfl) rfl (by omega) (by kernel_rfl) (by kernel_rfl) (by kernel_rfl) (fun _ _ _ h => h) (.inl ⟨by kernel_rfl, fun w' hw' => by obtain ⟨u0, u1⟩ := hw'; go_simp⟩) hS ?_
  simp only [Act.put, List.setIfInBounds_toArray, List.set_cons_zero, List.set_cons_succ]
  refine HL_take (i := 3) (.pointer (some ⟨g, 5, none⟩)) (by kernel_rfl) rfl (by omega) (by kernel_rfl) (by kernel_rfl) (by kernel_rfl) (fun _ _ _ h => h) (.inl ⟨by kernel_rfl, fun w' hw' => by obtain ⟨u0, u1⟩ := hw'; go_simp⟩) hS ?_
  simp only [Act.put, List.setIfInBounds_toArray, List.set_cons_zero, List.set_cons_succ]
  refine HL_take (i := 4) (mv) (by kernel_rfl) rfl (by omega) (by kernel_rfl) (by kernel_rfl) (by kernel_rfl) (fun _ _ _ h => h) (.inl ⟨by kernel_rfl, fun w' hw' => by obtain ⟨u0, u1⟩ := hw'; go_simp⟩) hS ?_
  simp only [Act.put, List.setIfInBounds_toArray, List.set_cons_zero, List.set_cons_succ]
  refine HL_take (i := 5) (.agg #[.int .i64 (t1.k : Nat), .int .i64 (t1.at' : Nat), .string (textOf t1.s), .int .i64 (t3.k : Nat), .int .i64 (t3.at' : Nat), .string (textOf t3.s), .int .i64 (t5.k : Nat), .int .i64 (t5.at' : Nat), .string (textOf t5.s)]) (by kernel_rfl) rfl (by omega) (by kernel_rfl) (by kernel_rfl) (by kernel_rfl) (fun _ _ _ h => h) (.inl ⟨by kernel_rfl, fun w' hw' => by obtain ⟨u0, u1⟩ := hw'; have y0 : w'.cell? ⟨x, 0, none⟩ = some (.int .i64 (t1.k : Nat)) := (cell_of_block u1 0).trans rfl; have y1 : w'.cell? ⟨x, 1, none⟩ = some (.int .i64 (t1.at' : Nat)) := (cell_of_block u1 1).trans rfl; have y2 : w'.cell? ⟨x, 2, none⟩ = some (.string (textOf t1.s)) := (cell_of_block u1 2).trans rfl; have y3 : w'.cell? ⟨x, 3, none⟩ = some (.int .i64 (t3.k : Nat)) := (cell_of_block u1 3).trans rfl; have y4 : w'.cell? ⟨x, 4, none⟩ = some (.int .i64 (t3.at' : Nat)) := (cell_of_block u1 4).trans rfl; have y5 : w'.cell? ⟨x, 5, none⟩ = some (.string (textOf t3.s)) := (cell_of_block u1 5).trans rfl; have y6 : w'.cell? ⟨x, 6, none⟩ = some (.int .i64 (t5.k : Nat)) := (cell_of_block u1 6).trans rfl; have y7 : w'.cell? ⟨x, 7, none⟩ = some (.int .i64 (t5.at' : Nat)) := (cell_of_block u1 7).trans rfl; have y8 : w'.cell? ⟨x, 8, none⟩ = some (.string (textOf t5.s)) := (cell_of_block u1 8).trans rfl; go_simp⟩) hS ?_
  simp only [Act.put, List.setIfInBounds_toArray, List.set_cons_zero, List.set_cons_succ]
  refine HL_one (i := 6) rfl (by omega) (by kernel_rfl) rfl ?_
  refine wp_value (v := .slice (some ⟨v5.heap.size, 0, none⟩) 1 1) (w' := v5.drew.alloc (.cells #[.int .i64 (t1.k : Nat), .int .i64 (t1.at' : Nat), .string (textOf t1.s), .int .i64 (t3.k : Nat), .int .i64 (t3.at' : Nat), .string (textOf t3.s), .int .i64 (t5.k : Nat), .int .i64 (t5.at' : Nat), .string (textOf t5.s)] 105)) (by go_simp) ?_
  refine ⟨HSA.out, ?_⟩
  simp only [Act.put, List.setIfInBounds_toArray, List.set_cons_zero, List.set_cons_succ]
  refine HL_one (i := 7) rfl (by omega) (by kernel_rfl) rfl ?_
  refine wp_append (.tmp 22) (.tmp 24) 77 77 (by kernel_rfl) mv (.slice (some ⟨v5.heap.size, 0, none⟩) 1 1) (by go_simp) (by go_simp) (fun v' w' => v' = .slice (some ⟨gg, 0, none⟩) n cap ∧ w' = w6) ⟨_, w6, HR6.out, rfl, rfl⟩ ?_
  rintro _ _ ⟨rfl, rfl⟩
  refine ⟨⟨HCM6.out, HX6.out⟩, ?_⟩
  simp only [Act.put, List.setIfInBounds_toArray, List.set_cons_zero, List.set_cons_succ]
  refine ⟨by kernel_rfl, ?_⟩
  simp only [List.drop_succ_cons, List.drop_zero]
  clear hS
  have hcm6 := HCM6.out
  go_wp2_with fail
  refine bodyPost_end (results_none rfl _ _ _) rfl ?_
  rw [HMP.out]
  refine ⟨rfl, _, HP7.out, HO7.out, ?_, ?_, ?_⟩
  · have := HB7.out; rw [HMV.out] at this; exact this
  · have := HM7.out; rw [HMV.out] at this; exact this
  · have := HT.out; rw [HMP.out] at this; exact this
end Go.Proofs.Ytonbfcpbgkpbaaa
