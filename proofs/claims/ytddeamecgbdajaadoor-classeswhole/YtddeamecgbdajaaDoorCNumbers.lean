/- ClassesNumbers: the walk. -/
import Derived.Test.YtddeamecgbdajaaDoorCRow
import Derived.Test.YtddeamecgbdajaaDoorCLaw
namespace Go.Proofs.YtddeamecgbdajaaDoor
open Go.RowKit Go.Shelf Go.Sort
open Go.Joins
attribute [local go_sem] Oper.semAt_some
theorem over_bad : checkA [⟨48, 57⟩] [⟨48, 57⟩] [⟨32, 32⟩] = (16, 2, 0) := by decide +kernel
theorem info39 : (Tryd.prog.info? 39).map (fun i => (i.zero, i.size, i.bytes)) = some (some (.agg #[.int .i64 0, .int .i64 0, .int .i64 0, .int .i64 0]), 4, 32) := by kernel_rfl
def numS : ByteArray := ⟨#[97, 98, 49, 32, 226, 130, 172]⟩
theorem num_runs : runsL (kindsL houA houB houC (items 0 (tl numS))) 7 = [⟨1, 0, 2, 2⟩, ⟨2, 2, 3, 1⟩, ⟨3, 3, 4, 1⟩, ⟨4, 4, 7, 1⟩] := by kernel_rfl
theorem wr_neq16 : ∀ W, (binOp BinOp.neq 25 (.agg #[.int .i64 16, .int .i64 2, .int .i64 0]) (.agg #[.int .i64 16, .int .i64 2, .int .i64 0])).run Tryd.prog W = .ok (.bool false) W := fun W => by kernel_rfl
theorem rn_eq0 : ∀ W, (binOp BinOp.eql 39 (.agg #[.int .i64 1, .int .i64 0, .int .i64 2, .int .i64 2]) (.agg #[.int .i64 1, .int .i64 0, .int .i64 2, .int .i64 2])).run Tryd.prog W = .ok (.bool true) W := fun W => by kernel_rfl
theorem rn_eq3 : ∀ W, (binOp BinOp.eql 39 (.agg #[.int .i64 4, .int .i64 4, .int .i64 7, .int .i64 1]) (.agg #[.int .i64 4, .int .i64 4, .int .i64 7, .int .i64 1])).run Tryd.prog W = .ok (.bool true) W := fun W => by kernel_rfl
theorem runs_nil : ∀ (wx : World) (lb : Array Value), (binOp BinOp.eql 33 (.func (.func 27) #[] lb) .nilFunc).run Tryd.prog wx = .ok (.bool false) wx := fun wx lb => by kernel_rfl
set_option maxRecDepth 100000 in
set_option maxHeartbeats 8000000 in
theorem numbers_walk (w : World) (hG : GL w) : Calls Tryd.prog 3 #[] w fun e w' => e = .returned (.bool true) ∧ Below w.heap.size w w' := by
  refine (callsIn_wide (n := 6)).1 ?_
  have h1 : 1 ≤ 6 := by omega
  have HN := fun (a b c : Nat) (wx : World) (h1 : SPS wx (some ⟨a, 0, none⟩) [⟨48, 57⟩]) (h2 : SPS wx (some ⟨b, 0, none⟩) [⟨48, 57⟩]) (h3 : SPS wx (some ⟨c, 0, none⟩) [⟨32, 32⟩]) (hg : GL wx) => new_any (some ⟨a, 0, none⟩) (some ⟨b, 0, none⟩) (some ⟨c, 0, none⟩) 1 1 1 [⟨48, 57⟩] [⟨48, 57⟩] [⟨32, 32⟩] wx ⟨Nat.le_refl _, by omega, h1⟩ ⟨Nat.le_refl _, by omega, h2⟩ ⟨Nat.le_refl _, by omega, h3⟩ hg
  rw [over_bad] at HN
  unfold wrV at HN
  simp only [List.length_cons, List.length_nil, Nat.zero_add] at HN
  have hnf := runs_nil
  have hq16 := wr_neq16
  have eA := SPS.new w [⟨48, 57⟩] 29
  obtain ⟨V1, hV1⟩ : ∃ V1, V1 = w.alloc (.cells #[.int .i32 48, .int .i32 57] 29) := ⟨_, rfl⟩
  have eA : SPS V1 (some ⟨w.heap.size, 0, none⟩) [⟨48, 57⟩] := by rw [hV1]; exact eA
  have z1 : V1.heap.size = w.heap.size + 1 := by rw [hV1]; simp
  have b1 : Below w.heap.size w V1 := by rw [hV1]; exact (Below.refl _ _).alloc (Nat.le_refl _) _
  have eB := SPS.new V1 [⟨48, 57⟩] 29
  obtain ⟨V2, hV2⟩ : ∃ V2, V2 = V1.alloc (.cells #[.int .i32 48, .int .i32 57] 29) := ⟨_, rfl⟩
  have eB : SPS V2 (some ⟨V1.heap.size, 0, none⟩) [⟨48, 57⟩] := by rw [hV2]; exact eB
  have b2 : Below V1.heap.size V1 V2 := by rw [hV2]; exact (Below.refl _ _).alloc (Nat.le_refl _) _
  have z2 : V2.heap.size = w.heap.size + 1 + 1 := by rw [hV2]; simp; omega
  have eC := SPS.new V2 [⟨32, 32⟩] 29
  obtain ⟨V3, hV3⟩ : ∃ V3, V3 = V2.alloc (.cells #[.int .i32 32, .int .i32 32] 29) := ⟨_, rfl⟩
  have eC : SPS V3 (some ⟨V2.heap.size, 0, none⟩) [⟨32, 32⟩] := by rw [hV3]; exact eC
  have b3 : Below V2.heap.size V2 V3 := by rw [hV3]; exact (Below.refl _ _).alloc (Nat.le_refl _) _
  have B2 := b1.trans (b2.mono b1.size)
  have B3 := B2.trans (b3.mono B2.size)
  have HN := HN _ _ _ V3 ((eA.below b2).below b3) (eB.below b3) eC (hG.below B3)
  rw [z1, z2] at HN
  refine callsIn_of_wp_marks Tryd.func3 rfl trivial ?_ rfl
  simp only [Tryd.ntmps3, List.size_toArray, List.length_nil, Nat.reduceSub, Array.replicate_succ, Array.replicate_zero, List.push_toArray, List.append_toArray, List.nil_append, List.cons_append]
  gi_wp2_with fail
  rw [← hV1, ← hV2, ← hV3]
  clear hV1 hV2 hV3 eA eB eC b1 b2 b3 z1 z2 B2
  refine ⟨trivial, (callsIn_wide.2 HN).mono ?_⟩
  rintro e w1 ⟨p, rfl, -, hp, hb1⟩
  obtain rfl := hp (by decide)
  have hG1 := (hG.below B3).below hb1
  have B4 := B3.trans (hb1.mono B3.size)
  have ba : Below w1.heap.size w1 (w1.alloc (.cells #[.int .i64 16, .int .i64 2, .int .i64 0] 25)) := (Below.refl _ _).alloc (Nat.le_refl _) _
  have hX := heap_alloc_new w1 (.cells #[.int .i64 16, .int .i64 2, .int .i64 0] 25)
  have hG2 := hG1.below ba
  have B5 := B4.trans (ba.mono B4.size)
  have hlt : w1.heap.size < (w1.alloc (.cells #[.int .i64 16, .int .i64 2, .int .i64 0] 25)).heap.size := by simp
  clear HN hp hG1 hb1 B3 B4 ba
  have HX : Hid ((w1.alloc (.cells #[.int .i64 16, .int .i64 2, .int .i64 0] 25)).heap[w1.heap.size]? = some (.cells #[.int .i64 16, .int .i64 2, .int .i64 0] 25 (0, 0)) ∧ w1.heap.size < (w1.alloc (.cells #[.int .i64 16, .int .i64 2, .int .i64 0] 25)).heap.size) := ⟨hX, hlt⟩
  clear hX hlt
  gi_wp2_with fail
  obtain ⟨W2, hW2⟩ : ∃ W2, W2 = w1.alloc (.cells #[.int .i64 16, .int .i64 2, .int .i64 0] 25) := ⟨_, rfl⟩
  rw [← hW2] at HX hG2 B5 ⊢
  clear hW2
  obtain ⟨zz, hzz⟩ : ∃ zz, zz = w1.heap.size := ⟨_, rfl⟩
  rw [← hzz] at HX ⊢
  clear hzz
  refine ⟨trivial, (callsIn_wide.2 (table_any _ hG2)).mono ?_⟩
  rintro e w3 ⟨g, rfl, hT, hb3⟩
  have hG3 := hG2.below hb3
  have B6 := B5.trans (hb3.mono B5.size)
  have hx3 := (hb3.block _ HX.out.2).trans HX.out.1
  have x0 := cell_of_block hx3 (i := 0)
  have x1 := cell_of_block hx3 (i := 1)
  have x2 := cell_of_block hx3 (i := 2)
  clear HX hG2 B5 hb3 hx3
  gi_wp2_with fail
  refine ⟨trivial, (runs_in _ g numS _).mono ?_⟩
  rintro e w4 ⟨rfl, hw4'⟩
  have HW4 : Hid (w4 = (w3.alloc (.cells #[.pointer (some ⟨g, 0, none⟩)] 22)).alloc (.cells #[.string numS] 9)) := hw4'
  clear x0 x1 x2 hw4'
  gi_wp2_with fail
  have hw4 := HW4.out
  have z4 : w4.heap.size = w3.heap.size + 2 := by rw [hw4]; simp
  have bt4 : Boxed w4 w3.heap.size 22 (.pointer (some ⟨g, 0, none⟩)) := by rw [hw4]; exact (Boxed.new w3 _ _).alloc _
  have bs4 : Boxed w4 (w3.heap.size + 1) 9 (.string numS) := by
    have := Boxed.new (w3.alloc (.cells #[.pointer (some ⟨g, 0, none⟩)] 22)) 9 (.string numS)
    rw [World.size_alloc] at this
    rw [hw4]; exact this
  have b34 : Below w3.heap.size w3 w4 := by rw [hw4]; exact ((Below.refl _ _).alloc (Nat.le_refl _) _).alloc (by simp) _
  clear hw4
  obtain ⟨W0, hW0⟩ : ∃ W0, W0 = w4.alloc (.cells #[.slice none 0 0] 35) := ⟨_, rfl⟩
  have bl0 : Boxed W0 (w3.heap.size + 2) 35 (.slice none 0 0) := by
    have := Boxed.new w4 35 (.slice none 0 0)
    rw [z4] at this
    rw [hW0]; exact this
  have bt0 : Boxed W0 w3.heap.size 22 (.pointer (some ⟨g, 0, none⟩)) := by rw [hW0]; exact bt4.alloc _
  have bs0 : Boxed W0 (w3.heap.size + 1) 9 (.string numS) := by rw [hW0]; exact bs4.alloc _
  have z0 : W0.heap.size = w3.heap.size + 3 := by rw [hW0]; simp; omega
  have b30 : Below w3.heap.size w3 W0 := by rw [hW0]; exact b34.alloc b34.size _
  have B0 : Below w.heap.size w W0 := B6.trans (b30.mono B6.size)
  have hsw : w.heap.size ≤ w3.heap.size := B6.size
  rw [← hW0]
  simp only [z4]
  clear hW0 bt4 bs4 b34 B6
  obtain ⟨i0, hi, hz0, hz1, hz2⟩ := info_parts info39
  obtain ⟨r1, r2, r3⟩ := hou_rgt
  have hst := runs_stops 5 (by omega) (w3.heap.size + 1) w3.heap.size g numS (by decide) houA houB houC r1 r2 r3 (fun k u => k = w3.heap.size + 2 ∨ (w3.heap.size ≤ k ∧ RowO u)) w3 W0
    (fun k u h => by
      rcases h with h | ⟨h1, h2⟩
      · exact ⟨by omega, .inl (by omega)⟩
      · exact ⟨h1, .inr h2⟩) hT hG3 bs0 bt0 (fun h => by
      rcases h with h | ⟨_, h⟩
      · omega
      · exact notRow1 _ _ (by decide) h) (KpX.of_below b30) 6 (by decide +kernel)
  rw [show numS.size = 7 from rfl, num_runs] at hst
  refine range_runs 6 rfl h1 (gf := 27) (lb := #[.pointer (some ⟨w3.heap.size, 0, none⟩), .pointer (some ⟨w3.heap.size + 1, 0, none⟩)]) rfl trivial (enters_of Tryd.func27 (by kernel_rfl) rfl)
    hst KpX.trans (fun U o o' h2 h3 h4 => KpX.putObj U _ o o' h2 h3 h4) (Below.refl _ _)
    (fun pre U => (∃ v, Boxed U (w3.heap.size + 2) 35 v ∧ OwnR 39 U (W0.heap.size + 4) v pre) ∧ Below w.heap.size w U)
    (fun _ _ _ => False)
    ?own (fun _ _ _ _ _ hs _ _ => hs)
    ⟨⟨_, bl0, OwnR.nil _ _ _⟩, B0⟩
    ?assign ?body ?done ?stop
  case own =>
    refine OwnC.and ?_ (ownC_below (Nat.le_refl _) (by omega))
    intro pre U U' row h hg hr
    obtain ⟨v, h1, h2, h3⟩ := h
    refine ⟨v, h1.kept hg (fun e => by have := (hr _ e.symm).1; omega), ⟨h2.1, ?_⟩, h3⟩
    rcases h2.2 with h0 | ⟨g', cap, cur, hv, hg', hh, r⟩
    · exact .inl h0
    · refine .inr ⟨g', cap, cur, hv, hg', (hg.block g' (Array.getElem?_eq_some_iff.1 hh).1 (fun e => ?_)).trans hh, r⟩
      rcases (hr g' e.symm).2 with ⟨o, ho, hc⟩ | ⟨_, h⟩
      · rw [hh] at ho; cases ho; cases hc
      · omega
  case assign =>
    rintro pre x U K' ⟨⟨v, hv, hrow⟩, hB⟩ hsz hK'
    unfold rnv
    gi_wp2
    refine hK' _ _ ((KeepsOthers.alloc _ _).from _) (KpX.of_below ((Below.refl _ U).alloc (Nat.le_refl _) _)) ⟨⟨v, hv.alloc _, ?_⟩, hB.alloc hB.size _⟩ ⟨U.heap.size, hsz, World.alloc_heap_new U _, rfl⟩
    exact hrow.below ((Below.refl _ U).alloc (Nat.le_refl _) _) (Nat.le_refl _)
  case body =>
    rintro pre x Bx U ⟨r, hr⟩ hBx ⟨⟨v, hv, hrow⟩, hB⟩ hXx hlt
    simp only [actN, List.setIfInBounds_toArray, List.set_cons_succ, List.set_cons_zero]
    have hc := hv.cell
    have x0 := cell_of_block hXx (i := 0)
    have x1 := cell_of_block hXx (i := 1)
    have x2 := cell_of_block hXx (i := 2)
    have x3 := cell_of_block hXx (i := 3)
    unfold cellR at x0 x1 x2 x3
    have hUs : W0.heap.size + 4 ≤ U.heap.size := by have := (Array.getElem?_eq_some_iff.1 hXx).1; omega
    obtain ⟨v', w5, hr1, ho1, ht1⟩ := run_own_rn 35 39 i0 _ Tryd.underlying35 hi hz0 hz1 hz2 rfl (U.alloc (.cells (cellR x).toArray 39)) (W0.heap.size + 4) v pre x U.heap.size 1 (hrow.below ((Below.refl _ U).alloc (Nat.le_refl _) _) (Nat.le_refl _)) (World.alloc_heap_new U _) (by simp; omega) (by omega)
    obtain ⟨hv1, hv2, hk2, hp2⟩ := rn_appended (X := fun k u => k = w3.heap.size + 2 ∨ (w3.heap.size ≤ k ∧ RowO u)) v' hv (by decide) (fun u => .inl rfl) (fun k u h1 h2 => .inr ⟨by omega, h2⟩) ht1
    have ho2 := ho1.1.kept (grownBy_setCell' w5 (w3.heap.size + 2) v') (.inr (hv1.not_row (by decide) ho1.1).symm)
    have hb5 : Below w.heap.size w (w5.setCell ⟨w3.heap.size + 2, 0, none⟩ v') := (((hB.alloc hB.size _).trans ((ht1.below (by simp; omega)).mono (by omega)))).setCell (p := ⟨w3.heap.size + 2, 0, none⟩) (show w.heap.size ≤ w3.heap.size + 2 by omega) _
    have hni := ho1.2
    have hl1 : (pre ++ [x]).length = pre.length + 1 := by simp
    have ho3 := ho1.1
    rw [hl1] at ho3
    obtain ⟨g', cap', rfl⟩ := ownsRow_succ ho3
    have hc1 := hv1.cell
    have hf1 := hv1.frozen
    unfold cellR at hr1
    clear ho1 ht1 ho3 hl1 hXx
    gi_wp2_with (gi_at_builtin; refine wpListIn_append_run rfl (.tmp 37) (.tmp 39) 35 35 rfl _ _ rfl rfl _ w5 hr1 ?_)
    exact ⟨hk2.from _, hp2, ⟨⟨_, hv2, ho2, hni⟩, hb5⟩⟩
  case done =>
    rintro D ys U hD rfl ⟨⟨v, hv, hrow⟩, hB⟩ hDk
    have hc := hv.cell
    obtain ⟨g', cap', rfl⟩ := ownsRow_succ (k := 3) hrow.1
    have rr := hrow.1
    obtain ⟨a0, a1, a2, a3⟩ := row_at rr rfl (i := 0) rfl
    obtain ⟨d0, d1, d2, d3⟩ := row_at rr rfl (i := 3) rfl
    simp only [Nat.zero_mul, Nat.zero_add, Nat.reduceMul, Nat.reduceAdd] at a0 a1 a2 a3 d0 d1 d2 d3
    have e0 := rn_eq0
    have e3 := rn_eq3
    have hGU : GL U := hG.below hB
    clear hrow rr
    gi_wp2_with fail
    refine ⟨trivial, (callsIn_wide.2 (known_any _ hGU)).mono ?_⟩
    rintro e w9 ⟨rfl, hb9⟩
    have hDk9 := (hb9.block D (Array.getElem?_eq_some_iff.1 hDk).1).trans hDk
    have hB9 := hB.trans (hb9.mono hB.size)
    clear a0 a1 a2 a3 d0 d1 d2 d3 e0 e3 hc
    gi_wp2_with fail
    refine ⟨by simp, .inl ⟨D, _, rfl, run_takeDeferred hDk9, ?_⟩⟩
    exact ⟨.bool true, by simp [results, Tryd.results3, go_sem], rfl, hB9.trans (belowK_b (w := w) (Nat.le_refl _) w9 D _ _ (by omega) hDk9 rfl rfl)⟩
  case stop =>
    rintro D c pre W _ _ h _
    exact h.elim
end Go.Proofs.YtddeamecgbdajaaDoor
