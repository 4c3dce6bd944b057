import Derived.Test.YtonbfcpbgkpbaabJ10
section
/- recipe.Parse: its contract. -/
namespace Go.Proofs.Ytonbfcpbgkpbaab
open Go.RowKit Go.Sort Go.Joins
set_option linter.unusedVariables false
set_option linter.unusedSimpArgs false
set_option maxRecDepth 100000
/-- Parse's data lie in memory of their own. -/
structure DataOwn (w : World) (base : Nat) (W M A B C : Value) (d : PD) : Prop where
  oW : OwnG 9 1 encS1 w base W d.W
  oM : OwnG 47 3 encG w base M d.M
  oA : OwnG 50 2 encS w base A d.A
  oB : OwnG 50 2 encS w base B d.B
  oC : OwnG 50 2 encS w base C d.C
  dAB : Apart A B
  dAC : Apart A C
  dBC : Apart B C
def nil5 : Value := .agg #[.slice none 0 0, .slice none 0 0, .slice none 0 0, .slice none 0 0, .slice none 0 0]
def ParsePost (w : World) (pl : Nat → Nat × Nat) (R : Except (Nat × Nat) PD) (e : Ending) (w' : World) : Prop :=
  Below w.heap.size w w' ∧ match R with
  | .error y => e = .returned (.tuple #[nil5, .agg #[.int .i64 (y.1 : Nat), .int .i64 ((pl y.1).1 : Nat), .int .i64 ((pl y.1).2 : Nat)], .int .i64 (y.2 : Nat)])
  | .ok d => ∃ W M A B C, e = .returned (.tuple #[.agg #[W, M, A, B, C], .agg #[.int .i64 0, .int .i64 0, .int .i64 0], .int .i64 0]) ∧ DataOwn w' w.heap.size W M A B C d
/-- What placeOf answers. -/
def PlaceCon (src : ByteArray) (pl : Nat → Nat × Nat) (y : Nat) : Prop := ∀ wx : World, Calls Try.prog 17 #[.string src, .int .i64 (y : Nat)] wx fun e w' => e = .returned (.agg #[.int .i64 (y : Nat), .int .i64 ((pl y).1 : Nat), .int .i64 ((pl y).2 : Nat)]) ∧ Below wx.heap.size wx w'
theorem parseA_long {l : List UInt8} (h : 4194304 < l.length) : parseA l = .error (0, 3) := by unfold parseA; rw [if_pos h]
def DB (w : World) (z : Nat) (v0 v1 v2 v3 v4 : Value) : Prop := w.heap[z]? = some (.cells #[v0, v1, v2, v3, v4] 27 (0, 0))
def QB (w : World) (z : Nat) (r0 r1 r2 : Value) : Prop := w.heap[z]? = some (.cells #[r0, r1, r2] 29 (0, 0))
theorem fin8 {V : World} {z y B : Nat} {v0 v1 v2 v3 v4 r0 r1 r2 u0 u1 u2 u3 u4 s0 s1 s2 : Value} (hD : DB V z v0 v1 v2 v3 v4) (hR : QB V y r0 r1 r2) (hne : z ≠ y) (hz : B ≤ z) (hy : B ≤ y) {W : World} (hW : W = (((((((V.setCell ⟨z, 0, none⟩ u0).setCell ⟨z, 1, none⟩ u1).setCell ⟨z, 2, none⟩ u2).setCell ⟨z, 3, none⟩ u3).setCell ⟨z, 4, none⟩ u4).setCell ⟨y, 0, none⟩ s0).setCell ⟨y, 1, none⟩ s1).setCell ⟨y, 2, none⟩ s2) :
    W.cell? ⟨z, 0, none⟩ = some u0 ∧ W.cell? ⟨z, 1, none⟩ = some u1 ∧ W.cell? ⟨z, 2, none⟩ = some u2 ∧ W.cell? ⟨z, 3, none⟩ = some u3 ∧ W.cell? ⟨z, 4, none⟩ = some u4 ∧ W.cell? ⟨y, 0, none⟩ = some s0 ∧ W.cell? ⟨y, 1, none⟩ = some s1 ∧ W.cell? ⟨y, 2, none⟩ = some s2 ∧ Below B V W ∧ (∀ j, j ≠ z → j ≠ y → W.heap[j]? = V.heap[j]?) := by
  subst hW
  have d1 : DB (V.setCell ⟨z, 0, none⟩ u0) z u0 v1 v2 v3 v4 := block_setCell hD (i := 0) u0
  have d2 : DB ((V.setCell ⟨z, 0, none⟩ u0).setCell ⟨z, 1, none⟩ u1) z u0 u1 v2 v3 v4 := block_setCell d1 (i := 1) u1
  have d3 : DB (((V.setCell ⟨z, 0, none⟩ u0).setCell ⟨z, 1, none⟩ u1).setCell ⟨z, 2, none⟩ u2) z u0 u1 u2 v3 v4 := block_setCell d2 (i := 2) u2
  have d4 : DB ((((V.setCell ⟨z, 0, none⟩ u0).setCell ⟨z, 1, none⟩ u1).setCell ⟨z, 2, none⟩ u2).setCell ⟨z, 3, none⟩ u3) z u0 u1 u2 u3 v4 := block_setCell d3 (i := 3) u3
  have d5 : DB (((((V.setCell ⟨z, 0, none⟩ u0).setCell ⟨z, 1, none⟩ u1).setCell ⟨z, 2, none⟩ u2).setCell ⟨z, 3, none⟩ u3).setCell ⟨z, 4, none⟩ u4) z u0 u1 u2 u3 u4 := block_setCell d4 (i := 4) u4
  have hk5 : ∀ j, j ≠ z → (((((V.setCell ⟨z, 0, none⟩ u0).setCell ⟨z, 1, none⟩ u1).setCell ⟨z, 2, none⟩ u2).setCell ⟨z, 3, none⟩ u3).setCell ⟨z, 4, none⟩ u4).heap[j]? = V.heap[j]? := fun j hj => (Below.heap_setCell _ _ _ _ hj).trans ((Below.heap_setCell _ _ _ _ hj).trans ((Below.heap_setCell _ _ _ _ hj).trans ((Below.heap_setCell _ _ _ _ hj).trans (Below.heap_setCell _ _ _ _ hj))))
  have q0 : QB (((((V.setCell ⟨z, 0, none⟩ u0).setCell ⟨z, 1, none⟩ u1).setCell ⟨z, 2, none⟩ u2).setCell ⟨z, 3, none⟩ u3).setCell ⟨z, 4, none⟩ u4) y r0 r1 r2 := (hk5 y hne.symm).trans hR
  have bb : Below B V (((((V.setCell ⟨z, 0, none⟩ u0).setCell ⟨z, 1, none⟩ u1).setCell ⟨z, 2, none⟩ u2).setCell ⟨z, 3, none⟩ u3).setCell ⟨z, 4, none⟩ u4) := (((((Below.refl B V).setCell (p := ⟨z, 0, none⟩) hz u0).setCell (p := ⟨z, 1, none⟩) hz u1).setCell (p := ⟨z, 2, none⟩) hz u2).setCell (p := ⟨z, 3, none⟩) hz u3).setCell (p := ⟨z, 4, none⟩) hz u4
  generalize ((((V.setCell ⟨z, 0, none⟩ u0).setCell ⟨z, 1, none⟩ u1).setCell ⟨z, 2, none⟩ u2).setCell ⟨z, 3, none⟩ u3).setCell ⟨z, 4, none⟩ u4 = V5 at *
  have q1 : QB (V5.setCell ⟨y, 0, none⟩ s0) y s0 r1 r2 := block_setCell q0 (i := 0) s0
  have q2 : QB ((V5.setCell ⟨y, 0, none⟩ s0).setCell ⟨y, 1, none⟩ s1) y s0 s1 r2 := block_setCell q1 (i := 1) s1
  have q3 : QB (((V5.setCell ⟨y, 0, none⟩ s0).setCell ⟨y, 1, none⟩ s1).setCell ⟨y, 2, none⟩ s2) y s0 s1 s2 := block_setCell q2 (i := 2) s2
  have hk8 : ∀ j, j ≠ y → (((V5.setCell ⟨y, 0, none⟩ s0).setCell ⟨y, 1, none⟩ s1).setCell ⟨y, 2, none⟩ s2).heap[j]? = V5.heap[j]? := fun j hj => (Below.heap_setCell _ _ _ _ hj).trans ((Below.heap_setCell _ _ _ _ hj).trans (Below.heap_setCell _ _ _ _ hj))
  have d8 : DB (((V5.setCell ⟨y, 0, none⟩ s0).setCell ⟨y, 1, none⟩ s1).setCell ⟨y, 2, none⟩ s2) z u0 u1 u2 u3 u4 := (hk8 z hne).trans d5
  exact ⟨(cell_of_block d8 0).trans rfl, (cell_of_block d8 1).trans rfl, (cell_of_block d8 2).trans rfl, (cell_of_block d8 3).trans rfl, (cell_of_block d8 4).trans rfl, (cell_of_block q3 0).trans rfl, (cell_of_block q3 1).trans rfl, (cell_of_block q3 2).trans rfl, ((bb.setCell (p := ⟨y, 0, none⟩) hy s0).setCell (p := ⟨y, 1, none⟩) hy s1).setCell (p := ⟨y, 2, none⟩) hy s2, fun j hj hj2 => (hk8 j hj2).trans (hk5 j hj)⟩
theorem meanF_err : ∀ (l : List Wr) (d : MD) (y : Nat × Nat), meanF l d = .error y → y.2 ≠ 0
  | [], d, y, h => by cases h
  | x :: l, d, y, h => by
    unfold meanF at h
    cases hm : meanP x d with
    | error e =>
      rw [hm] at h
      cases h
      unfold meanP at hm
      revert hm
      cases idOfP d.made x.l.s with
      | none => intro hm; cases hm; simp
      | some a =>
        simp only
        cases idOfP d.made x.r.s with
        | none => intro hm; cases hm; simp
        | some b =>
          simp only
          split
          · intro hm; cases hm; simp
          · intro hm; cases hm
    | ok d' =>
      rw [hm] at h
      exact meanF_err l d' y h
theorem But.toBelow {g B C : Nat} {w w' : World} (h : But g B w w') (hC : C ≤ B) (hg : C ≤ g) : Below C w w' :=
  ⟨h.1, h.2.1, h.2.2.1, h.2.2.2.1, fun k hk => h.2.2.2.2 k (by omega) (by omega)⟩
theorem cell_farG {b g : Nat} (h : g ≠ b) (w : World) (o : Nat) (v : Value) (o' : Nat) : (w.setCell ⟨b, o, none⟩ v).cell? ⟨g, o', none⟩ = w.cell? ⟨g, o', none⟩ := by
  have h1 := Below.heap_setCell w ⟨b, o, none⟩ v g h
  unfold World.cell?
  simp only [h1]
set_option maxHeartbeats 2000000 in
theorem parse_any (src : ByteArray) (pl : Nat → Nat × Nat) (w : World) (hs : src.size ≤ 9223372036854775807) (hpl : ∀ y, parseA (tl src) = .error y → PlaceCon src pl y.1) :
    Calls Try.prog 6 #[.string src] w (ParsePost w pl (parseA (tl src))) := by
  obtain ⟨R, hR⟩ : ∃ R, R = parseA (tl src) := ⟨_, rfl⟩
  rw [← hR]
  have HR := Lib.hid hR
  have HPL := Lib.hid hpl
  have b1 := (box_below w (.cells #[.slice none 0 0, .slice none 0 0, .slice none 0 0, .slice none 0 0, .slice none 0 0] 27))
  have b2 := b1.trans ((box_below (w.alloc (.cells #[.slice none 0 0, .slice none 0 0, .slice none 0 0, .slice none 0 0, .slice none 0 0] 27)) (.cells #[.int .i64 0, .int .i64 0, .int .i64 0] 29)).mono b1.size)
  have hD := heap_alloc_new w (.cells #[.slice none 0 0, .slice none 0 0, .slice none 0 0, .slice none 0 0, .slice none 0 0] 27)
  obtain ⟨w1, hw1⟩ : ∃ w1, w1 = w.alloc (.cells #[.slice none 0 0, .slice none 0 0, .slice none 0 0, .slice none 0 0, .slice none 0 0] 27) := ⟨_, rfl⟩
  have hs1 : w1.heap.size = w.heap.size + 1 := by rw [hw1]; simp
  rw [← hw1] at b1 b2 hD
  have hQ := heap_alloc_new w1 (.cells #[.int .i64 0, .int .i64 0, .int .i64 0] 29)
  have hD2 := ((box_below w1 (.cells #[.int .i64 0, .int .i64 0, .int .i64 0] 29)).block w.heap.size (by omega)).trans hD
  obtain ⟨w2, hw2⟩ : ∃ w2, w2 = w1.alloc (.cells #[.int .i64 0, .int .i64 0, .int .i64 0] 29) := ⟨_, rfl⟩
  have hs2 : w2.heap.size = w.heap.size + 2 := by rw [hw2]; simp; omega
  rw [← hw2] at b2 hQ hD2
  rw [hs1] at hQ
  have HW1 := Lib.hid hw1
  have HW2 := Lib.hid hw2
  have HB2 := Lib.hid b2
  have HS2 := Lib.hid hs2
  clear hR hpl b1 b2 hD hw1 hw2 hs1 hs2
  by_cases hlong : 4194304 < src.size
  · have g0 : decide ((4194304 : Int) < (src.size : Int)) = true := decide_eq_true (by omega)
    have hre : R = .error (0, 3) := by rw [HR.out]; exact parseA_long (by simpa using hlong)
    have HRE := Lib.hid hre
    have hP := HPL.out (0, 3) (HR.out.symm.trans hre) w2
    simp only at hP
    clear hre
    go_enter Try.func6, Try.ntmps6
    go_wp2_with fail
    rw [← HW1.out, ← HW2.out]
    refine hP.mono ?_
    rintro e w3 ⟨rfl, hb3⟩
    have hD3 := (hb3.block w.heap.size (by have := HS2.out; omega)).trans hD2
    have hQ3 := (hb3.block (w.heap.size + 1) (by have := HS2.out; omega)).trans hQ
    have d0 := fun j => cell_of_block hD3 j
    have f0 := fun j => unfrozen_of_block hD3 j
    have q0 : w3.cell? ⟨w.heap.size + 1, 0, none⟩ = some (.int .i64 0) := (cell_of_block hQ3 0).trans rfl
    have q1 : w3.cell? ⟨w.heap.size + 1, 1, none⟩ = some (.int .i64 0) := (cell_of_block hQ3 1).trans rfl
    have q2 : w3.cell? ⟨w.heap.size + 1, 2, none⟩ = some (.int .i64 0) := (cell_of_block hQ3 2).trans rfl
    have f1 := fun j => unfrozen_of_block hQ3 j
    go_wp2_with fail
    obtain ⟨WF, hWF⟩ : ∃ WF, WF = ((((((((w3.setCell ⟨w.heap.size, 0, none⟩ (.slice none 0 0)).setCell ⟨w.heap.size, 1, none⟩ (.slice none 0 0)).setCell ⟨w.heap.size, 2, none⟩ (.slice none 0 0)).setCell ⟨w.heap.size, 3, none⟩ (.slice none 0 0)).setCell ⟨w.heap.size, 4, none⟩ (.slice none 0 0)).setCell ⟨w.heap.size + 1, 0, none⟩ (.int .i64 0)).setCell ⟨w.heap.size + 1, 1, none⟩ (.int .i64 ((pl 0).1 : Nat))).setCell ⟨w.heap.size + 1, 2, none⟩ (.int .i64 ((pl 0).2 : Nat))) := ⟨_, rfl⟩
    rw [← hWF]
    clear d0 f0 q0 q1 q2 f1
    obtain ⟨y0, y1, y2, y3, y4, y5, y6, y7, hfb, -⟩ := fin8 (B := w.heap.size) hD3 hQ3 (by omega) (Nat.le_refl _) (Nat.le_succ _) hWF
    clear hWF
    exact bodyPost_ret (v := .tuple #[nil5, .agg #[.int .i64 0, .int .i64 ((pl 0).1 : Nat), .int .i64 ((pl 0).2 : Nat)], .int .i64 3]) (by simp [results, Try.results6, go_sem, y0, y1, y2, y3, y4, y5, y6, y7, nil5]) rfl ⟨(HB2.out.trans (hb3.mono HB2.out.size)).trans hfb, by rw [HRE.out]; rfl⟩
  · have g0 : decide ((4194304 : Int) < (src.size : Int)) = false := decide_eq_false (by omega)
    obtain ⟨g, hg⟩ : ∃ g, g = w.heap.size + 2 := ⟨_, rfl⟩
    have hP3 : PB (w2.alloc (.cells #[.string src, .int .i64 0, .int .i64 0, .int .i64 0, .string ⟨#[]⟩, .slice none 0 0, .slice none 0 0, .slice none 0 0, .slice none 0 0, .slice none 0 0, .slice none 0 0, .int .i64 0, .int .i64 0] 65)) g ⟨src, 0, 0, 0, ⟨#[]⟩, .slice none 0 0, .slice none 0 0, .slice none 0 0, .slice none 0 0, .slice none 0 0, .slice none 0 0, 0, 0⟩ := by
      rw [hg, ← HS2.out]; exact heap_alloc_new w2 _
    have hb3 := box_below w2 (.cells #[.string src, .int .i64 0, .int .i64 0, .int .i64 0, .string ⟨#[]⟩, .slice none 0 0, .slice none 0 0, .slice none 0 0, .slice none 0 0, .slice none 0 0, .slice none 0 0, .int .i64 0, .int .i64 0] 65)
    obtain ⟨w3, hw3⟩ : ∃ w3, w3 = w2.alloc (.cells #[.string src, .int .i64 0, .int .i64 0, .int .i64 0, .string ⟨#[]⟩, .slice none 0 0, .slice none 0 0, .slice none 0 0, .slice none 0 0, .slice none 0 0, .slice none 0 0, .int .i64 0, .int .i64 0] 65) := ⟨_, rfl⟩
    have hs3 : w3.heap.size = w.heap.size + 3 := by rw [hw3]; have := HS2.out; simp; omega
    rw [← hw3] at hP3 hb3
    have HW3 := Lib.hid hw3
    have HGS := Lib.hid hg
    have HS3 := Lib.hid hs3
    have HRU := rules_any g src w3 hP3 (by omega)
    have hD3 := (hb3.block w.heap.size (by have := HS2.out; omega)).trans hD2
    have hQ3 := (hb3.block (w.heap.size + 1) (by have := HS2.out; omega)).trans hQ
    have HB3 := Lib.hid (HB2.out.trans (hb3.mono HB2.out.size))
    have HD2 := Lib.hid hD3
    have HQ2 := Lib.hid hQ3
    have hfit := rules_fit (tl src) (by simp; omega)
    have hpa : parseA (tl src) = (if (rulesF (rest (tl src) 0).length (false, rest (tl src) 0) ⟨[], [], [], []⟩).2.1 = true then .error (match (rulesF (rest (tl src) 0).length (false, rest (tl src) 0) ⟨[], [], [], []⟩).2.2 with | [] => (src.size, 31) | t :: _ => refT src.size t) else
      match meanF (rulesF (rest (tl src) 0).length (false, rest (tl src) 0) ⟨[], [], [], []⟩).1.M ⟨List.replicate (rulesF (rest (tl src) 0).length (false, rest (tl src) 0) ⟨[], [], [], []⟩).1.M.length [], [], []⟩ with
      | .error e => .error e
      | .ok d => .ok ⟨d.W, d.M, (rulesF (rest (tl src) 0).length (false, rest (tl src) 0) ⟨[], [], [], []⟩).1.A, (rulesF (rest (tl src) 0).length (false, rest (tl src) 0) ⟨[], [], [], []⟩).1.B, (rulesF (rest (tl src) 0).length (false, rest (tl src) 0) ⟨[], [], [], []⟩).1.C⟩) := by
      unfold parseA
      rw [if_neg (by simp; omega)]
      have hre : strm ((tl src).length + 1) (tl src) 0 = rest (tl src) 0 := rfl
      rw [hre, tl_len]
      rfl
    unfold RulesPost at HRU
    obtain ⟨RF, hRF⟩ : ∃ RF, RF = rulesF (rest (tl src) 0).length (false, rest (tl src) 0) ⟨[], [], [], []⟩ := ⟨_, rfl⟩
    rw [← hRF] at hfit hpa HRU
    rw [← HR.out] at hpa
    have HFIT := Lib.hid hfit
    have HPA := Lib.hid hpa
    clear hRF hfit hpa hP3 hb3 hD2 hQ hD3 hQ3 hw3 hs3 hg
    go_enter Try.func6, Try.ntmps6
    go_wp2_with fail
    rw [show w.heap.size + 1 + 1 = g by have := HGS.out; omega, ← HW1.out, ← HW2.out, ← HW3.out]
    refine HRU.mono ?_
    rintro e w4 ⟨rfl, d, ⟨zz, hPz, ⟨hsrc, hrel⟩, hdv⟩, hDO, hBw, -, hle⟩
    obtain ⟨r, bad, ts⟩ := RF
    clear HRU
    have hpa := HPA.out
    simp only at hpa hDO hle hrel
    cases ts with
    | nil => cases bad <;> exact hrel.elim
    | cons t ts =>
      cases bad with
      | true =>
        rw [if_pos rfl] at hpa
        obtain ⟨-, -, -, hrf, -⟩ := hrel
        have hRe : R = .error (zz.at', zz.why) := by rw [hrf]; exact hpa
        have hwy : zz.why ≠ 0 := by have := refT_why src.size t; rw [← hrf] at this; exact this
        clear hpa hrf hsrc hdv hDO hle
        obtain ⟨py, hpy⟩ : ∃ py, py = zz.at' := ⟨_, rfl⟩
        obtain ⟨wy, hwy2⟩ : ∃ wy, wy = zz.why := ⟨_, rfl⟩
        have e11 := hPz.c11
        have e12 := hPz.c12
        have fz := fun j => hPz.free j
        rw [← hpy, ← hwy2] at hRe
        rw [← hwy2] at e11 hwy
        rw [← hpy] at e12
        have g1 : ((wy : Int) == 0) = false := by simp; omega
        have g2 : ((wy : Int) != 0) = true := by simp; omega
        have HRE := Lib.hid hRe
        have HP := Lib.hid (HPL.out (py, wy) (HR.out.symm.trans hRe))
        have hs3 := HS3.out
        have hgs := HGS.out
        have hD5 := (hBw.2.2.2.2 w.heap.size (by omega) (by omega)).trans HD2.out
        have hQ5 := (hBw.2.2.2.2 (w.heap.size + 1) (by omega) (by omega)).trans HQ2.out
        have hB5 : Below w.heap.size w w4 := HB3.out.trans (hBw.toBelow (by omega) (by omega))
        clear hs3 hgs
        have HD5 := Lib.hid hD5
        have HQ5 := Lib.hid hQ5
        have HB5 := Lib.hid hB5
        have HPz := Lib.hid hPz
        have HWY := Lib.hid hwy2
        have HPY := Lib.hid hpy
        have HNG : Hid (g ≠ w.heap.size ∧ g ≠ w.heap.size + 1) := Lib.hid (by have := HGS.out; omega)
        clear hPz hRe hwy hBw hpy hwy2 hD5 hQ5 hB5
        go_upto_region 8 with fail
        have n2 : g ≠ w.heap.size := HNG.out.1
        have n3 : g ≠ w.heap.size + 1 := HNG.out.2
        go_region_held3 (fun w' : World => w'.cell? ⟨g, 11, none⟩ = some (.int .i64 (wy : Nat)) ∧ w'.cell? ⟨g, 12, none⟩ = some (.int .i64 (py : Nat))) (first | go_keep | (refine ⟨?_, ?_⟩ <;> (simp only [cell_farG n2, cell_farG n3]; assumption))) ((go_at_call 17; refine (HP.out _).mono ?_; rintro e w6 ⟨rfl, hb6⟩; have hdr := below_drewN (Below.refl w4.heap.size w4) 1; have hP6 := (HPz.out.below hdr HPz.out.lt).below hb6 HPz.out.lt; have hD6 := (hb6.block w.heap.size (Array.getElem?_eq_some_iff.1 HD5.out).1).trans HD5.out; have hQ6 := (hb6.block (w.heap.size + 1) (Array.getElem?_eq_some_iff.1 HQ5.out).1).trans HQ5.out; have u0 : w6.cell? ⟨g, 11, none⟩ = some (.int .i64 (wy : Nat)) := hP6.c11.trans (by rw [HWY.out]); have u1 : w6.cell? ⟨g, 12, none⟩ = some (.int .i64 (py : Nat)) := hP6.c12.trans (by rw [HPY.out]); have f0 := fun j => unfrozen_of_block hD6 j; have f1 := fun j => unfrozen_of_block hQ6 j; have d0 : w6.cell? ⟨w.heap.size, 0, none⟩ = some (.slice none 0 0) := (cell_of_block hD6 0).trans rfl; have d1 : w6.cell? ⟨w.heap.size, 1, none⟩ = some (.slice none 0 0) := (cell_of_block hD6 1).trans rfl; have d2 : w6.cell? ⟨w.heap.size, 2, none⟩ = some (.slice none 0 0) := (cell_of_block hD6 2).trans rfl; have d3 : w6.cell? ⟨w.heap.size, 3, none⟩ = some (.slice none 0 0) := (cell_of_block hD6 3).trans rfl; have d4 : w6.cell? ⟨w.heap.size, 4, none⟩ = some (.slice none 0 0) := (cell_of_block hD6 4).trans rfl; have q0 : w6.cell? ⟨w.heap.size + 1, 0, none⟩ = some (.int .i64 0) := (cell_of_block hQ6 0).trans rfl; have q1 : w6.cell? ⟨w.heap.size + 1, 1, none⟩ = some (.int .i64 0) := (cell_of_block hQ6 1).trans rfl; have q2 : w6.cell? ⟨w.heap.size + 1, 2, none⟩ = some (.int .i64 0) := (cell_of_block hQ6 2).trans rfl))
        obtain ⟨WF, hWF⟩ : ∃ WF, WF = ((((((((w6.setCell ⟨w.heap.size, 0, none⟩ (.slice none 0 0)).setCell ⟨w.heap.size, 1, none⟩ (.slice none 0 0)).setCell ⟨w.heap.size, 2, none⟩ (.slice none 0 0)).setCell ⟨w.heap.size, 3, none⟩ (.slice none 0 0)).setCell ⟨w.heap.size, 4, none⟩ (.slice none 0 0)).setCell ⟨w.heap.size + 1, 0, none⟩ (.int .i64 (py : Nat))).setCell ⟨w.heap.size + 1, 1, none⟩ (.int .i64 ((pl py).1 : Nat))).setCell ⟨w.heap.size + 1, 2, none⟩ (.int .i64 ((pl py).2 : Nat))) := ⟨_, rfl⟩
        rw [← hWF]
        clear d0 d1 d2 d3 d4 f0 f1 q0 q1 q2 u0 u1 hP6
        obtain ⟨y0, y1, y2, y3, y4, y5, y6, y7, hfb, -⟩ := fin8 (B := w.heap.size) hD6 hQ6 (by omega) (Nat.le_refl _) (Nat.le_succ _) hWF
        have HFB := Lib.hid (HB5.out.trans (((hdr.mono HB5.out.size).trans (hb6.mono (Nat.le_trans HB5.out.size hdr.size))).trans hfb))
        clear hWF hD6 hQ6 hfb hdr hb6 e11 e12 fz
        go_wp2_with fail
        exact bodyPost_ret (v := .tuple #[nil5, .agg #[.int .i64 (py : Nat), .int .i64 ((pl py).1 : Nat), .int .i64 ((pl py).2 : Nat)], .int .i64 (wy : Nat)]) (by simp [results, Try.results6, go_sem, y0, y1, y2, y3, y4, y5, y6, y7, nil5]) rfl ⟨HFB.out, by rw [HRE.out]⟩
      | false =>
        rw [if_neg (by simp)] at hpa
        obtain ⟨-, -, -, hwz, haz, -⟩ := hrel
        have hM0 : zz.M0 = .slice none 0 0 := by have := hDO.m0; rw [← hdv] at this; exact this
        have hzM : zz.M = d.M := by rw [← hdv]; rfl
        have hzA : zz.A = d.A := by rw [← hdv]; rfl
        have hzB : zz.B = d.B := by rw [← hdv]; rfl
        have hzC : zz.C = d.C := by rw [← hdv]; rfl
        have hoM := hDO.oM
        rw [← hzM] at hoM
        have HME := meaning_any g w3.heap.size zz r.M w4 hPz hM0 hoM (by have := HGS.out; have := HS3.out; omega) hBw.size HFIT.out hle.1
        obtain ⟨RM, hRM⟩ : ∃ RM, RM = meanF r.M ⟨List.replicate r.M.length [], [], []⟩ := ⟨_, rfl⟩
        rw [← hRM] at HME hpa
        have HRM := Lib.hid hRM
        have HDO := Lib.hid hDO
        have HBw := Lib.hid hBw
        have HZA := Lib.hid hzA
        have HZB := Lib.hid hzB
        have HZC := Lib.hid hzC
        have HWZ := Lib.hid hwz
        have e11 := hPz.c11
        rw [hwz] at e11
        have HPB := Lib.hid hpa
        clear hpa hRM hDO hBw hzM hzA hzB hzC hM0 hoM hdv hsrc hwz haz hle hPz
        go_wp2_with fail
        refine HME.mono ?_
        rintro e w5 ⟨rfl, hb5, hR5⟩
        have hBw : But g w3.heap.size w3 w5 := HBw.out.trans (hb5.mono HBw.out.size)
        clear HME e11
        have hpa := HPB.out
        cases RM with
        | error y =>
          obtain ⟨mm, hPz⟩ := hR5
          have hwy : y.2 ≠ 0 := meanF_err _ _ _ HRM.out.symm
          have hRe : R = .error y := hpa
          obtain ⟨zy, hzy⟩ : ∃ zy, zy = ({ zz with M0 := mm, at' := y.1, why := y.2 } : PZ) := ⟨_, rfl⟩
          have hwy : zy.why ≠ 0 := by rw [hzy]; exact hwy
          have hRe : R = .error (zy.at', zy.why) := by rw [hzy]; exact hRe
          rw [← hzy] at hPz
          obtain ⟨zz, hzz⟩ : ∃ zz, zz = zy := ⟨_, rfl⟩
          rw [← hzz] at hPz hwy hRe
          clear hpa hb5 hzz hzy
          obtain ⟨py, hpy⟩ : ∃ py, py = zz.at' := ⟨_, rfl⟩
          obtain ⟨wy, hwy2⟩ : ∃ wy, wy = zz.why := ⟨_, rfl⟩
          have e11 := hPz.c11
          have e12 := hPz.c12
          have fz := fun j => hPz.free j
          rw [← hpy, ← hwy2] at hRe
          rw [← hwy2] at e11 hwy
          rw [← hpy] at e12
          have g1 : ((wy : Int) == 0) = false := by simp; omega
          have g2 : ((wy : Int) != 0) = true := by simp; omega
          have HRE := Lib.hid hRe
          have HP := Lib.hid (HPL.out (py, wy) (HR.out.symm.trans hRe))
          have hs3 := HS3.out
          have hgs := HGS.out
          have hD5 := (hBw.2.2.2.2 w.heap.size (by omega) (by omega)).trans HD2.out
          have hQ5 := (hBw.2.2.2.2 (w.heap.size + 1) (by omega) (by omega)).trans HQ2.out
          have hB5 : Below w.heap.size w w5 := HB3.out.trans (hBw.toBelow (by omega) (by omega))
          clear hs3 hgs
          have HD5 := Lib.hid hD5
          have HQ5 := Lib.hid hQ5
          have HB5 := Lib.hid hB5
          have HPz := Lib.hid hPz
          have HWY := Lib.hid hwy2
          have HPY := Lib.hid hpy
          have HNG : Hid (g ≠ w.heap.size ∧ g ≠ w.heap.size + 1) := Lib.hid (by have := HGS.out; omega)
          clear hPz hRe hwy hBw hpy hwy2 hD5 hQ5 hB5
          go_upto_region 8 with fail
          have n2 : g ≠ w.heap.size := HNG.out.1
          have n3 : g ≠ w.heap.size + 1 := HNG.out.2
          go_region_held3 (fun w' : World => w'.cell? ⟨g, 11, none⟩ = some (.int .i64 (wy : Nat)) ∧ w'.cell? ⟨g, 12, none⟩ = some (.int .i64 (py : Nat))) (first | go_keep | (refine ⟨?_, ?_⟩ <;> (simp only [cell_farG n2, cell_farG n3]; assumption))) ((go_at_call 17; refine (HP.out _).mono ?_; rintro e w6 ⟨rfl, hb6⟩; have hdr := below_drewN (Below.refl w5.heap.size w5) 1; have hP6 := (HPz.out.below hdr HPz.out.lt).below hb6 HPz.out.lt; have hD6 := (hb6.block w.heap.size (Array.getElem?_eq_some_iff.1 HD5.out).1).trans HD5.out; have hQ6 := (hb6.block (w.heap.size + 1) (Array.getElem?_eq_some_iff.1 HQ5.out).1).trans HQ5.out; have u0 : w6.cell? ⟨g, 11, none⟩ = some (.int .i64 (wy : Nat)) := hP6.c11.trans (by rw [HWY.out]); have u1 : w6.cell? ⟨g, 12, none⟩ = some (.int .i64 (py : Nat)) := hP6.c12.trans (by rw [HPY.out]); have f0 := fun j => unfrozen_of_block hD6 j; have f1 := fun j => unfrozen_of_block hQ6 j; have d0 : w6.cell? ⟨w.heap.size, 0, none⟩ = some (.slice none 0 0) := (cell_of_block hD6 0).trans rfl; have d1 : w6.cell? ⟨w.heap.size, 1, none⟩ = some (.slice none 0 0) := (cell_of_block hD6 1).trans rfl; have d2 : w6.cell? ⟨w.heap.size, 2, none⟩ = some (.slice none 0 0) := (cell_of_block hD6 2).trans rfl; have d3 : w6.cell? ⟨w.heap.size, 3, none⟩ = some (.slice none 0 0) := (cell_of_block hD6 3).trans rfl; have d4 : w6.cell? ⟨w.heap.size, 4, none⟩ = some (.slice none 0 0) := (cell_of_block hD6 4).trans rfl; have q0 : w6.cell? ⟨w.heap.size + 1, 0, none⟩ = some (.int .i64 0) := (cell_of_block hQ6 0).trans rfl; have q1 : w6.cell? ⟨w.heap.size + 1, 1, none⟩ = some (.int .i64 0) := (cell_of_block hQ6 1).trans rfl; have q2 : w6.cell? ⟨w.heap.size + 1, 2, none⟩ = some (.int .i64 0) := (cell_of_block hQ6 2).trans rfl))
          obtain ⟨WF, hWF⟩ : ∃ WF, WF = ((((((((w6.setCell ⟨w.heap.size, 0, none⟩ (.slice none 0 0)).setCell ⟨w.heap.size, 1, none⟩ (.slice none 0 0)).setCell ⟨w.heap.size, 2, none⟩ (.slice none 0 0)).setCell ⟨w.heap.size, 3, none⟩ (.slice none 0 0)).setCell ⟨w.heap.size, 4, none⟩ (.slice none 0 0)).setCell ⟨w.heap.size + 1, 0, none⟩ (.int .i64 (py : Nat))).setCell ⟨w.heap.size + 1, 1, none⟩ (.int .i64 ((pl py).1 : Nat))).setCell ⟨w.heap.size + 1, 2, none⟩ (.int .i64 ((pl py).2 : Nat))) := ⟨_, rfl⟩
          rw [← hWF]
          clear d0 d1 d2 d3 d4 f0 f1 q0 q1 q2 u0 u1 hP6
          obtain ⟨y0, y1, y2, y3, y4, y5, y6, y7, hfb, -⟩ := fin8 (B := w.heap.size) hD6 hQ6 (by omega) (Nat.le_refl _) (Nat.le_succ _) hWF
          have HFB := Lib.hid (HB5.out.trans (((hdr.mono HB5.out.size).trans (hb6.mono (Nat.le_trans HB5.out.size hdr.size))).trans hfb))
          clear hWF hD6 hQ6 hfb hdr hb6 e11 e12 fz
          go_wp2_with fail
          exact bodyPost_ret (v := .tuple #[nil5, .agg #[.int .i64 (py : Nat), .int .i64 ((pl py).1 : Nat), .int .i64 ((pl py).2 : Nat)], .int .i64 (wy : Nat)]) (by simp [results, Try.results6, go_sem, y0, y1, y2, y3, y4, y5, y6, y7, nil5]) rfl ⟨HFB.out, by rw [HRE.out]⟩
        | ok md =>
          obtain ⟨va, vm, hP5, hoW, hoM⟩ := hR5
          have hRe : R = .ok ⟨md.W, md.M, r.A, r.B, r.C⟩ := hpa
          obtain ⟨xa, ca, rfl⟩ := hoW.slice
          obtain ⟨xm, cm, rfl⟩ := hoM.slice
          have hoA := HDO.out.oA
          have hoB := HDO.out.oB
          have hoC := HDO.out.oC
          rw [← HZA.out] at hoA
          rw [← HZB.out] at hoB
          rw [← HZC.out] at hoC
          obtain ⟨x1, c1, hv1⟩ := hoA.slice
          obtain ⟨x2, c2, hv2⟩ := hoB.slice
          obtain ⟨x3, c3, hv3⟩ := hoC.slice
          have e6 : w5.cell? ⟨g, 6, none⟩ = some (.slice xa md.W.length ca) := hP5.c6
          have e7 : w5.cell? ⟨g, 7, none⟩ = some (.slice xm md.M.length cm) := hP5.c7
          have e8 : w5.cell? ⟨g, 8, none⟩ = some (.slice x1 r.A.length c1) := hP5.c8.trans (congrArg some hv1)
          have e9 : w5.cell? ⟨g, 9, none⟩ = some (.slice x2 r.B.length c2) := hP5.c9.trans (congrArg some hv2)
          have e10 : w5.cell? ⟨g, 10, none⟩ = some (.slice x3 r.C.length c3) := hP5.c10.trans (congrArg some hv3)
          have e11 : w5.cell? ⟨g, 11, none⟩ = some (.int .i64 0) := hP5.c11.trans (by show some (Value.int .i64 (zz.why : Nat)) = _; rw [HWZ.out]; rfl)
          have hs3 := HS3.out
          have hgs := HGS.out
          have hg3 : g < w3.heap.size := by omega
          have oA := hoA.but hb5 (Nat.le_refl _) hg3
          have oB := hoB.but hb5 (Nat.le_refl _) hg3
          have oC := hoC.but hb5 (Nat.le_refl _) hg3
          have oW := hoW.base_le (base' := w.heap.size) (by have := HBw.out.size; omega)
          have oM := hoM.base_le (base' := w.heap.size) (by have := HBw.out.size; omega)
          have oA := oA.base_le (base' := w.heap.size) (by omega)
          have oB := oB.base_le (base' := w.heap.size) (by omega)
          have oC := oC.base_le (base' := w.heap.size) (by omega)
          have aAB := HDO.out.dAB
          have aAC := HDO.out.dAC
          have aBC := HDO.out.dBC
          rw [← HZA.out, ← HZB.out] at aAB
          rw [← HZA.out, ← HZC.out] at aAC
          rw [← HZB.out, ← HZC.out] at aBC
          rw [hv1] at oA aAB aAC
          rw [hv2] at oB aAB aBC
          rw [hv3] at oC aAC aBC
          have hD5 := (hBw.2.2.2.2 w.heap.size (by omega) (by omega)).trans HD2.out
          have hQ5 := (hBw.2.2.2.2 (w.heap.size + 1) (by omega) (by omega)).trans HQ2.out
          have hB5 : Below w.heap.size w w5 := HB3.out.trans (hBw.toBelow (by omega) (by omega))
          have f0 := fun j => unfrozen_of_block hD5 j
          have f1 := fun j => unfrozen_of_block hQ5 j
          have d0 : w5.cell? ⟨w.heap.size, 0, none⟩ = some (.slice none 0 0) := (cell_of_block hD5 0).trans rfl
          have d1 : w5.cell? ⟨w.heap.size, 1, none⟩ = some (.slice none 0 0) := (cell_of_block hD5 1).trans rfl
          have d2 : w5.cell? ⟨w.heap.size, 2, none⟩ = some (.slice none 0 0) := (cell_of_block hD5 2).trans rfl
          have d3 : w5.cell? ⟨w.heap.size, 3, none⟩ = some (.slice none 0 0) := (cell_of_block hD5 3).trans rfl
          have d4 : w5.cell? ⟨w.heap.size, 4, none⟩ = some (.slice none 0 0) := (cell_of_block hD5 4).trans rfl
          have q0 : w5.cell? ⟨w.heap.size + 1, 0, none⟩ = some (.int .i64 0) := (cell_of_block hQ5 0).trans rfl
          have q1 : w5.cell? ⟨w.heap.size + 1, 1, none⟩ = some (.int .i64 0) := (cell_of_block hQ5 1).trans rfl
          have q2 : w5.cell? ⟨w.heap.size + 1, 2, none⟩ = some (.int .i64 0) := (cell_of_block hQ5 2).trans rfl
          have HRe := Lib.hid hRe
          have HOW := Lib.hid oW
          have HOM := Lib.hid oM
          have HOA := Lib.hid oA
          have HOB := Lib.hid oB
          have HOC := Lib.hid oC
          have HAB := Lib.hid aAB
          have HAC := Lib.hid aAC
          have HBC := Lib.hid aBC
          have HD5 := Lib.hid hD5
          have HQ5 := Lib.hid hQ5
          have HB5 := Lib.hid hB5
          have n2 : g ≠ w.heap.size := by omega
          have n3 : g ≠ w.heap.size + 1 := by omega
          clear hpa hb5 hBw hP5 hoW hoM hoA hoB hoC hv1 hv2 hv3 hs3 hgs hg3 oW oM oA oB oC aAB aAC aBC hD5 hQ5 hB5 hRe
          go_wp2_with fail
          obtain ⟨WF, hWF⟩ : ∃ WF, WF = ((((((((w5.setCell ⟨w.heap.size, 0, none⟩ (.slice xa md.W.length ca)).setCell ⟨w.heap.size, 1, none⟩ (.slice xm md.M.length cm)).setCell ⟨w.heap.size, 2, none⟩ (.slice x1 r.A.length c1)).setCell ⟨w.heap.size, 3, none⟩ (.slice x2 r.B.length c2)).setCell ⟨w.heap.size, 4, none⟩ (.slice x3 r.C.length c3)).setCell ⟨w.heap.size + 1, 0, none⟩ (.int .i64 0)).setCell ⟨w.heap.size + 1, 1, none⟩ (.int .i64 0)).setCell ⟨w.heap.size + 1, 2, none⟩ (.int .i64 0)) := ⟨_, rfl⟩
          rw [← hWF]
          clear d0 d1 d2 d3 d4 f0 f1 q0 q1 q2 e6 e7 e8 e9 e10 e11 g0
          obtain ⟨y0, y1, y2, y3, y4, y5, y6, y7, hfb, hkk⟩ := fin8 (B := w.heap.size) HD5.out HQ5.out (by omega) (Nat.le_refl _) (Nat.le_succ _) hWF
          clear hWF
          have hkt : ∀ (T : TypeId), T ≠ 27 → T ≠ 29 → ∀ (b : Nat) (cur : Array Value), w5.heap[b]? = some (Obj.cells cur T (0, 0)) → WF.heap[b]? = w5.heap[b]? := fun T hT hT2 b cur hb => hkk b
            (fun e => by have h2 := HD5.out; rw [← e, hb] at h2; injection h2 with h2; injection h2 with _ h2; exact hT h2)
            (fun e => by have h2 := HQ5.out; rw [← e, hb] at h2; injection h2 with h2; injection h2 with _ h2; exact hT2 h2)
          have HEND : Hid (ParsePost w pl R (.returned (.tuple #[.agg #[.slice xa md.W.length ca, .slice xm md.M.length cm, .slice x1 r.A.length c1, .slice x2 r.B.length c2, .slice x3 r.C.length c3], .agg #[.int .i64 0, .int .i64 0, .int .i64 0], .int .i64 0])) WF) := Lib.hid ⟨HB5.out.trans hfb, by
            rw [HRe.out]
            exact ⟨_, _, _, _, _, rfl, ⟨HOW.out.kt (hkt _ (by decide) (by decide)), HOM.out.kt (hkt _ (by decide) (by decide)), HOA.out.kt (hkt _ (by decide) (by decide)), HOB.out.kt (hkt _ (by decide) (by decide)), HOC.out.kt (hkt _ (by decide) (by decide)), HAB.out, HAC.out, HBC.out⟩⟩⟩
          clear hkt hkk hfb
          exact bodyPost_ret (v := .tuple #[.agg #[.slice xa md.W.length ca, .slice xm md.M.length cm, .slice x1 r.A.length c1, .slice x2 r.B.length c2, .slice x3 r.C.length c3], .agg #[.int .i64 0, .int .i64 0, .int .i64 0], .int .i64 0]) (by simp [results, Try.results6, go_sem, y0, y1, y2, y3, y4, y5, y6, y7]) rfl HEND.out
end Go.Proofs.Ytonbfcpbgkpbaab
end
section
/- The law's reads, at a recipe that is read; known. -/
namespace Go.Proofs.Ytonbfcpbgkpbaab
open Go.RowKit Go.Sort Go.Joins
set_option linter.unusedVariables false
set_option linter.unusedSimpArgs false
set_option maxRecDepth 100000
theorem OwnG.wsp {w : World} {base : Nat} {a : Option Addr} {c : Nat} {l : List (List UInt8)} (h : OwnG 9 1 encS1 w base (.slice a l.length c) l) : WSP w a (l.map textOf) := by
  cases l with
  | nil => exact .inl rfl
  | cons s l =>
    obtain ⟨b, ha, -, -, -⟩ := OwnG.row (k := 1) (enc := encS1) (fun _ => rfl) h (i := 0) rfl
    refine .inr ⟨b, 0, ha, fun i x hx => ?_⟩
    rw [List.getElem?_map] at hx
    cases hy : (s :: l)[i]? with
    | none => rw [hy] at hx; cases hx
    | some y =>
      rw [hy] at hx
      obtain rfl : textOf y = x := Option.some.inj hx
      obtain ⟨b', ha', -, -, hc⟩ := OwnG.row (k := 1) (enc := encS1) (fun _ => rfl) h hy
      rw [ha] at ha'
      cases ha'
      have := hc 0 (by omega)
      rw [Nat.mul_one, Nat.add_zero] at this
      rw [Nat.zero_add]
      exact this
theorem OwnG.msp {w : World} {base : Nat} {a : Option Addr} {c : Nat} {l : List Mg} (h : OwnG 47 3 encG w base (.slice a l.length c) l) : MSP w a l := by
  cases l with
  | nil => exact .inl rfl
  | cons s l =>
    obtain ⟨b, ha, -, -, -⟩ := OwnG.row (k := 3) (enc := encG) (fun _ => rfl) h (i := 0) rfl
    refine .inr ⟨b, 0, ha, fun i x hx => ?_⟩
    obtain ⟨b', ha', -, -, hc⟩ := OwnG.row (k := 3) (enc := encG) (fun _ => rfl) h hx
    rw [ha] at ha'
    cases ha'
    rw [Nat.zero_add]
    exact ⟨(hc 0 (by omega)).trans rfl, (hc 1 (by omega)).trans rfl, (hc 2 (by omega)).trans rfl⟩
theorem OwnG.sps {w : World} {base : Nat} {a : Option Addr} {c : Nat} {l : List Sp} (h : OwnG 50 2 encS w base (.slice a l.length c) l) : SPS w a l := by
  cases l with
  | nil => exact .inl rfl
  | cons s l =>
    obtain ⟨b, ha, -, -, -⟩ := OwnG.row (k := 2) (enc := encS) (fun _ => rfl) h (i := 0) rfl
    refine .inr ⟨b, 0, ha, fun i x hx => ?_⟩
    obtain ⟨b', ha', -, -, hc⟩ := OwnG.row (k := 2) (enc := encS) (fun _ => rfl) h hx
    rw [ha] at ha'
    cases ha'
    rw [Nat.zero_add]
    exact ⟨(hc 0 (by omega)).trans rfl, (hc 1 (by omega)).trans rfl⟩
set_option maxHeartbeats 4000000 in
theorem reads_ok (src : ByteArray) (d : PD) (b0 b1 b2 b3 b4 : Option Addr) (d0 d1 d2 d3 d4 : Nat) (w : World) (hs : src.size ≤ 4194304) (hp : parseA (tl src) = .ok d) (hn : d.W.length ≤ 4611686018427387904 ∧ d.M.length ≤ 4611686018427387904 ∧ d.A.length ≤ 4611686018427387904 ∧ d.B.length ≤ 4611686018427387904 ∧ d.C.length ≤ 4611686018427387904)
    (k0 : WSP w b0 (d.W.map textOf)) (k1 : MSP w b1 d.M) (k2 : SPS w b2 d.A) (k3 : SPS w b3 d.B) (k4 : SPS w b4 d.C) :
    Calls Try.prog 20 #[.string src, .agg #[.slice b0 d.W.length d0, .slice b1 d.M.length d1, .slice b2 d.A.length d2, .slice b3 d.B.length d3, .slice b4 d.C.length d4], .agg #[.int .i64 0, .int .i64 0, .int .i64 0], .int .i64 0] w fun e w' => e = .returned (.bool true) ∧ Below w.heap.size w w' := by
  have HP := fun wx => parse_any src (fun _ => (0, 0)) wx (by omega) (fun y hy => by rw [hp] at hy; cases hy)
  rw [hp] at HP
  obtain ⟨nW, hnW⟩ : ∃ n, n = d.W.length := ⟨_, rfl⟩
  obtain ⟨nM, hnM⟩ : ∃ n, n = d.M.length := ⟨_, rfl⟩
  obtain ⟨nA, hnA⟩ : ∃ n, n = d.A.length := ⟨_, rfl⟩
  obtain ⟨nB, hnB⟩ : ∃ n, n = d.B.length := ⟨_, rfl⟩
  obtain ⟨nC, hnC⟩ : ∃ n, n = d.C.length := ⟨_, rfl⟩
  have HN := Lib.hid hn
  have K0 := Lib.hid k0
  have K1 := Lib.hid k1
  have K2 := Lib.hid k2
  have K3 := Lib.hid k3
  have K4 := Lib.hid k4
  have HNW := Lib.hid hnW
  have HNM := Lib.hid hnM
  have HNA := Lib.hid hnA
  have HNB := Lib.hid hnB
  have HNC := Lib.hid hnC
  rw [← hnW, ← hnM, ← hnA, ← hnB, ← hnC]
  have bx1 := box_below w (.cells #[.slice b0 nW d0, .slice b1 nM d1, .slice b2 nA d2, .slice b3 nB d3, .slice b4 nC d4] 27)
  have hb1 := heap_alloc_new w (.cells #[.slice b0 nW d0, .slice b1 nM d1, .slice b2 nA d2, .slice b3 nB d3, .slice b4 nC d4] 27)
  obtain ⟨w1, hw1⟩ : ∃ w1, w1 = w.alloc (.cells #[.slice b0 nW d0, .slice b1 nM d1, .slice b2 nA d2, .slice b3 nB d3, .slice b4 nC d4] 27) := ⟨_, rfl⟩
  have hs1 : w1.heap.size = w.heap.size + 1 := by rw [hw1]; simp
  rw [← hw1] at bx1 hb1
  have bx2 := box_below w1 (.cells #[.int .i64 0, .int .i64 0, .int .i64 0] 67)
  have hb2 := heap_alloc_new w1 (.cells #[.int .i64 0, .int .i64 0, .int .i64 0] 67)
  obtain ⟨w2, hw2⟩ : ∃ w2, w2 = w1.alloc (.cells #[.int .i64 0, .int .i64 0, .int .i64 0] 67) := ⟨_, rfl⟩
  have hs2 : w2.heap.size = w.heap.size + 2 := by rw [hw2]; simp; omega
  rw [← hw2] at bx2 hb2
  rw [hs1] at hb2
  have hb1 := (bx2.block w.heap.size (by omega)).trans hb1
  have HB2 := Lib.hid (bx1.trans (bx2.mono bx1.size))
  have HW1 := Lib.hid hw1
  have HW2 := Lib.hid hw2
  have HD1 := Lib.hid hb1
  have HD2 := Lib.hid hb2
  have HS2 := Lib.hid hs2
  clear hp hn k0 k1 k2 k3 k4 hnW hnM hnA hnB hnC bx1 bx2 hw1 hw2 hs1 hs2 hb1 hb2
  go_enter Try.func20, Try.ntmps20
  go_wp2_with fail
  rw [← HW1.out, ← HW2.out]
  refine (HP _).mono ?_
  rintro e w3 ⟨hb3, vW, vM, vA, vB, vC, rfl, hO⟩
  obtain ⟨xW, cW, rfl⟩ := hO.oW.slice
  obtain ⟨xM, cM, rfl⟩ := hO.oM.slice
  obtain ⟨xA, cA, rfl⟩ := hO.oA.slice
  obtain ⟨xB, cB, rfl⟩ := hO.oB.slice
  obtain ⟨xC, cC, rfl⟩ := hO.oC.slice
  have j0 := hO.oW.wsp
  have j1 := hO.oM.msp
  have j2 := hO.oA.sps
  have j3 := hO.oB.sps
  have j4 := hO.oC.sps
  have bb2 := HB2.out
  have hD1 := (hb3.block w.heap.size (by have := HS2.out; omega)).trans HD1.out
  have hD2 := (hb3.block (w.heap.size + 1) (by have := HS2.out; omega)).trans HD2.out
  have hb3' := bb2.trans (hb3.mono bb2.size)
  have bx4 := box_below w3 (.cells #[.slice xW d.W.length cW, .slice xM d.M.length cM, .slice xA d.A.length cA, .slice xB d.B.length cB, .slice xC d.C.length cC] 27)
  have bx5 := bx4.trans ((box_below (w3.alloc (.cells #[.slice xW d.W.length cW, .slice xM d.M.length cM, .slice xA d.A.length cA, .slice xB d.B.length cB, .slice xC d.C.length cC] 27)) (.cells #[.int .i64 0, .int .i64 0, .int .i64 0] 29)).mono bx4.size)
  have i0 := (K0.out.below hb3').below bx5
  have i1 := (K1.out.below hb3').below bx5
  have i2 := (K2.out.below hb3').below bx5
  have i3 := (K3.out.below hb3').below bx5
  have i4 := (K4.out.below hb3').below bx5
  have j0 := j0.below bx5
  have j1 := j1.below bx5
  have j2 := j2.below bx5
  have j3 := j3.below bx5
  have j4 := j4.below bx5
  have hE1 := (bx5.block w.heap.size (by have := hb3'.size; have := (Array.getElem?_eq_some_iff.1 hD1).1; omega)).trans hD1
  have hE2 := (bx5.block (w.heap.size + 1) (by have := (Array.getElem?_eq_some_iff.1 hD2).1; omega)).trans hD2
  have hlen : (d.W.map textOf).length = d.W.length := by simp
  have HSM := keepSame_any xW xM xA xB xC b0 b1 b2 b3 b4 cW cM cA cB cC d0 d1 d2 d3 d4 (d.W.map textOf) d.M d.A d.B d.C _ (by rw [hlen]; exact HN.out) j0 j1 j2 j3 j4 i0 i1 i2 i3 i4
  rw [hlen, ← HNW.out, ← HNM.out, ← HNA.out, ← HNB.out, ← HNC.out] at HSM
  rw [← HNW.out, ← HNM.out, ← HNA.out, ← HNB.out, ← HNC.out] at bx5 hE1 hE2
  have HBX := Lib.hid (hb3'.trans (bx5.mono hb3'.size))
  have y0 : ((w3.alloc (.cells #[.slice xW nW cW, .slice xM nM cM, .slice xA nA cA, .slice xB nB cB, .slice xC nC cC] 27)).alloc (.cells #[.int .i64 0, .int .i64 0, .int .i64 0] 29)).cell? ⟨w.heap.size, 0, none⟩ = some (.slice b0 nW d0) := (cell_of_block hE1 0).trans rfl
  have y1 : ((w3.alloc (.cells #[.slice xW nW cW, .slice xM nM cM, .slice xA nA cA, .slice xB nB cB, .slice xC nC cC] 27)).alloc (.cells #[.int .i64 0, .int .i64 0, .int .i64 0] 29)).cell? ⟨w.heap.size, 1, none⟩ = some (.slice b1 nM d1) := (cell_of_block hE1 1).trans rfl
  have y2 : ((w3.alloc (.cells #[.slice xW nW cW, .slice xM nM cM, .slice xA nA cA, .slice xB nB cB, .slice xC nC cC] 27)).alloc (.cells #[.int .i64 0, .int .i64 0, .int .i64 0] 29)).cell? ⟨w.heap.size, 2, none⟩ = some (.slice b2 nA d2) := (cell_of_block hE1 2).trans rfl
  have y3 : ((w3.alloc (.cells #[.slice xW nW cW, .slice xM nM cM, .slice xA nA cA, .slice xB nB cB, .slice xC nC cC] 27)).alloc (.cells #[.int .i64 0, .int .i64 0, .int .i64 0] 29)).cell? ⟨w.heap.size, 3, none⟩ = some (.slice b3 nB d3) := (cell_of_block hE1 3).trans rfl
  have y4 : ((w3.alloc (.cells #[.slice xW nW cW, .slice xM nM cM, .slice xA nA cA, .slice xB nB cB, .slice xC nC cC] 27)).alloc (.cells #[.int .i64 0, .int .i64 0, .int .i64 0] 29)).cell? ⟨w.heap.size, 4, none⟩ = some (.slice b4 nC d4) := (cell_of_block hE1 4).trans rfl
  have z0 : ((w3.alloc (.cells #[.slice xW nW cW, .slice xM nM cM, .slice xA nA cA, .slice xB nB cB, .slice xC nC cC] 27)).alloc (.cells #[.int .i64 0, .int .i64 0, .int .i64 0] 29)).cell? ⟨w.heap.size + 1, 0, none⟩ = some (.int .i64 0) := (cell_of_block hE2 0).trans rfl
  have z1 : ((w3.alloc (.cells #[.slice xW nW cW, .slice xM nM cM, .slice xA nA cA, .slice xB nB cB, .slice xC nC cC] 27)).alloc (.cells #[.int .i64 0, .int .i64 0, .int .i64 0] 29)).cell? ⟨w.heap.size + 1, 1, none⟩ = some (.int .i64 0) := (cell_of_block hE2 1).trans rfl
  have z2 : ((w3.alloc (.cells #[.slice xW nW cW, .slice xM nM cM, .slice xA nA cA, .slice xB nB cB, .slice xC nC cC] 27)).alloc (.cells #[.int .i64 0, .int .i64 0, .int .i64 0] 29)).cell? ⟨w.heap.size + 1, 2, none⟩ = some (.int .i64 0) := (cell_of_block hE2 2).trans rfl
  rw [← HNW.out, ← HNM.out, ← HNA.out, ← HNB.out, ← HNC.out]
  clear j0 j1 j2 j3 j4 i0 i1 i2 i3 i4 hE1 hE2 hD1 hD2 bx4 bx5 hO hb3 hb3' bb2 hlen HP
  go_wp2_with fail
  refine HSM.mono ?_
  rintro e w6 ⟨rfl, hb6⟩
  go_wp2_with fail
  go_ret
  exact ⟨rfl, HBX.out.trans (hb6.mono HBX.out.size)⟩
end Go.Proofs.Ytonbfcpbgkpbaab
end
