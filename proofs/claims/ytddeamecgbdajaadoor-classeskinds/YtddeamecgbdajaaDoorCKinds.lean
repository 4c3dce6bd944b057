/- ClassesKinds: the walk. -/
import Derived.Test.YtddeamecgbdajaaDoorCKnown
import Derived.Lib.QuietBelow
namespace Go.Proofs.YtddeamecgbdajaaDoor
open Go.RowKit Go.Sort Go.Joins
set_option maxRecDepth 100000 in
set_option maxHeartbeats 4000000 in
theorem kinds_walk (s0 s1 a b c : Option Addr) (n0 c0 n1 c1 ca cb cc : Nat) (A B C : List Sp) (r fr n xr : Int) (bad : Bool) (w : World) (hA : Lst w a ca A) (hB : Lst w b cb B) (hC : Lst w c cc C) (hG : GL w) :
    Calls Tryd.prog 5 #[dtV (.slice s0 n0 c0) (.slice s1 n1 c1) a b c A.length ca B.length cb C.length cc, .int .i32 r, .agg #[.int .i64 fr, .int .i64 n, .int .i32 xr, .bool bad]] w fun e w' => e = .returned (.bool true) ∧ Below w.heap.size w w' := by
  have H1 := fun (wx : World) (h1 : Lst wx a ca A) (h2 : Lst wx b cb B) (h3 : Lst wx c cc C) (hg : GL wx) => lawRight_any s0 s1 a b c n0 c0 n1 c1 ca cb cc A B C wx h1 h2 h3 hg
  have H2 := fun (g : Nat) (wx : World) (h : TabAt wx g A B C) (rA : Rgt A) (rB : Rgt B) (rC : Rgt C) (hg : GL wx) => of_any g A B C r wx h rA rB rC hg
  have H3 := fun (wx : World) (h1 : Lst wx a ca A) (h2 : Lst wx b cb B) (h3 : Lst wx c cc C) => refOf_any s0 s1 a b c n0 c0 n1 c1 ca cb cc A B C r wx h1 h2 h3
  have H4 := fun (g : Nat) (wx : World) (h : TabAt wx g A B C) (rA : Rgt A) (rB : Rgt B) (rC : Rgt C) (hg : GL wx) => kind_any g A B C fr n xr bad wx h rA rB rC hg
  have H5 := fun (wx : World) (h1 : Lst wx a ca A) (h2 : Lst wx b cb B) (h3 : Lst wx c cc C) => refKind_any s0 s1 a b c n0 c0 n1 c1 ca cb cc A B C fr n xr bad wx h1 h2 h3
  have hRg : (checkA A B C).1 = 0 → Rgt A ∧ Rgt B ∧ Rgt C := fun h => (check_pass h).1.rgt (by omega)
  obtain ⟨y, hy⟩ : ∃ y, y = (checkA A B C).1 := ⟨_, rfl⟩
  rw [← hy] at hRg
  simp only [← hy] at H1
  have HRg : Hid (y = 0 → Rgt A ∧ Rgt B ∧ Rgt C) := hRg
  obtain ⟨k1, hk1⟩ : ∃ k, k = kindOf A B C r := ⟨_, rfl⟩
  obtain ⟨k2, hk2⟩ : ∃ k, k = kindIt A B C xr bad := ⟨_, rfl⟩
  rw [← hk1] at H2 H3
  rw [← hk2] at H4 H5
  have q1 : ((k1 : Int) == (k1 : Int)) = true := by simp
  have q2 : ((k2 : Int) == (k2 : Int)) = true := by simp
  clear hy hRg hk1 hk2
  have b0 : Below w.heap.size w (w.alloc (.cells #[.slice s0 n0 c0, .slice s1 n1 c1, .slice a A.length ca, .slice b B.length cb, .slice c C.length cc] 47)) := (Below.refl _ _).alloc (Nat.le_refl _) _
  have hD := heap_alloc_new w (.cells #[.slice s0 n0 c0, .slice s1 n1 c1, .slice a A.length ca, .slice b B.length cb, .slice c C.length cc] 47)
  obtain ⟨Y0, hY0⟩ : ∃ Y0, Y0 = w.alloc (.cells #[.slice s0 n0 c0, .slice s1 n1 c1, .slice a A.length ca, .slice b B.length cb, .slice c C.length cc] 47) := ⟨_, rfl⟩
  have z0 : Y0.heap.size = w.heap.size + 1 := by rw [hY0]; simp
  rw [← hY0] at b0 hD
  have b1 : Below Y0.heap.size Y0 (Y0.alloc (.cells #[.int .i64 fr, .int .i64 n, .int .i32 xr, .bool bad] 51)) := (Below.refl _ _).alloc (Nat.le_refl _) _
  have hI := heap_alloc_new Y0 (.cells #[.int .i64 fr, .int .i64 n, .int .i32 xr, .bool bad] 51)
  obtain ⟨Y1, hY1⟩ : ∃ Y1, Y1 = Y0.alloc (.cells #[.int .i64 fr, .int .i64 n, .int .i32 xr, .bool bad] 51) := ⟨_, rfl⟩
  have z1 : Y1.heap.size = w.heap.size + 1 + 1 := by rw [hY1]; simp; omega
  rw [← hY1] at b1 hI
  rw [z0] at hI
  have hD := (b1.block _ (by omega)).trans hD
  have B1 := b0.trans (b1.mono b0.size)
  have hA1 := hA.below B1
  have hB1 := hB.below B1
  have hC1 := hC.below B1
  have hG1 := hG.below B1
  have z2 : w.heap.size + 1 < Y1.heap.size := by omega
  clear hA hB hC hG b0 b1 z0
  have HD : Hid (Y1.heap[w.heap.size]? = some (.cells #[.slice s0 n0 c0, .slice s1 n1 c1, .slice a A.length ca, .slice b B.length cb, .slice c C.length cc] 47 (0, 0))) := hD
  have HI : Hid (Y1.heap[w.heap.size + 1]? = some (.cells #[.int .i64 fr, .int .i64 n, .int .i32 xr, .bool bad] 51 (0, 0))) := hI
  have d0 := cell_of_block hD (i := 0)
  have d1 := cell_of_block hD (i := 1)
  have d2 := cell_of_block hD (i := 2)
  have d3 := cell_of_block hD (i := 3)
  have d4 := cell_of_block hD (i := 4)
  clear hD hI
  unfold dtV at H1 H3 H5 ⊢
  go_enter Tryd.func5, Tryd.ntmps5
  go_wp2_with fail
  try rw [← hY0]
  try rw [← hY1]
  clear hY0 hY1
  obtain ⟨z, hz⟩ : ∃ z, z = w.heap.size := ⟨_, rfl⟩
  have HZ : Hid (z = w.heap.size) := hz
  rw [← hz] at z2 HD HI ⊢
  clear hz z1
  refine (H1 _ hA1 hB1 hC1 hG1).mono ?_
  rintro e w1 ⟨p, rfl, hp1, hp2, hb1⟩
  have hA2 := hA1.below hb1
  have hB2 := hB1.below hb1
  have hC2 := hC1.below hb1
  have hG2 := hG1.below hb1
  have hD2 := (hb1.block _ (by omega)).trans HD.out
  have hI2 := (hb1.block _ (by omega)).trans HI.out
  have B2 := B1.trans (hb1.mono B1.size)
  clear H1 hA1 hB1 hC1 hG1 HD HI d0 d1 d2 d3 d4 B1 z2
  by_cases h0 : y = 0
  · obtain ⟨g, rfl, hO⟩ := hp1 h0
    obtain ⟨rA, rB, rC⟩ := HRg.out h0
    have hT := hO.tab
    have G2 := fun d os => H2 g (grow (redrawn w1 d) os) (hT.below (below_regrown w1 d os)) rA rB rC (hG2.below (below_regrown w1 d os))
    have G3 := fun d os => H3 (grow (redrawn w1 d) os) (hA2.below (below_regrown w1 d os)) (hB2.below (below_regrown w1 d os)) (hC2.below (below_regrown w1 d os))
    have G4 := fun d os => H4 g (grow (redrawn w1 d) os) (hT.below (below_regrown w1 d os)) rA rB rC (hG2.below (below_regrown w1 d os))
    have G5 := fun d os => H5 (grow (redrawn w1 d) os) (hA2.below (below_regrown w1 d os)) (hB2.below (below_regrown w1 d os)) (hC2.below (below_regrown w1 d os))
    have G6 := fun d os => known_any (grow (redrawn w1 d) os) (hG2.below (below_regrown w1 d os))
    have d0 := cell_regrown (cell_of_block hD2 (i := 0) |>.trans rfl)
    have d1 := cell_regrown (cell_of_block hD2 (i := 1) |>.trans rfl)
    have d2 := cell_regrown (cell_of_block hD2 (i := 2) |>.trans rfl)
    have d3 := cell_regrown (cell_of_block hD2 (i := 3) |>.trans rfl)
    have d4 := cell_regrown (cell_of_block hD2 (i := 4) |>.trans rfl)
    have i0 := cell_regrown (cell_of_block hI2 (i := 0) |>.trans rfl)
    have i1 := cell_regrown (cell_of_block hI2 (i := 1) |>.trans rfl)
    have i2 := cell_regrown (cell_of_block hI2 (i := 2) |>.trans rfl)
    have i3 := cell_regrown (cell_of_block hI2 (i := 3) |>.trans rfl)
    have hd : decide (y = 0) = true := decide_eq_true h0
    clear H2 H3 H4 H5 hp1 hp2 hO hT rA rB rC hA2 hB2 hC2 hG2 hD2 hI2 HRg h0
    try dsimp only at G2 G3 G4 G5 G6
    go_wp2_with fail
    refine wp_region_quiet_below (by kernel_rfl) (by kernel_rfl) ?_
    repeat (go_big_quiet_step (first
      | (go_at_call 16; exact Calls.regrown_of (G2 _ _))
      | (go_at_call 17; exact Calls.regrown_of (G3 _ _))
      | (go_at_call 18; exact Calls.regrown_of (G4 _ _))
      | (go_at_call 19; exact Calls.regrown_of (G5 _ _))
      | (go_at_call 12; exact Calls.regrown_of (G6 _ _))))
    refine wpQuiet_nil ?_
    intro W5 hw'
    have hb5 : Below w1.heap.size w1 W5 := by
      obtain ⟨⟨dq, osq⟩, rfl⟩ := hw'
      exact below_regrown _ _ _
    clear hw' G2 G3 G4 G5 G6 d0 d1 d2 d3 d4 i0 i1 i2 i3
    go_wp2_with fail
    go_ret
    exact ⟨rfl, B2.trans (hb5.mono B2.size)⟩
  · have hd : decide (y = 0) = false := decide_eq_false h0
    clear hA2 hB2 hC2 hD2 hI2 hp1 hp2 H2 H3 H4 H5 HRg
    go_wp2_with fail
    refine (known_any _ hG2).mono ?_
    rintro e w2 ⟨rfl, hb2⟩
    go_wp2_with fail
    go_ret
    exact ⟨rfl, B2.trans (hb2.mono B2.size)⟩
end Go.Proofs.YtddeamecgbdajaaDoor
