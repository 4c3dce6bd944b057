/- SpansNumbers: the walk. -/
import Derived.Test.YtaenmgikpkkflaaDoorSKnown
namespace Go.Proofs.YtaenmgikpkkflaaDoor
open Go.RowKit Go.Sort Go.Joins
theorem n_right1 : rowV (rightA [⟨5, 4⟩]) = .tuple #[.int .i64 0, .int .i64 15] := by
  rw [show rightA [⟨5, 4⟩] = (0, 15) by decide]; rfl
theorem n_right2 : rowV (rightA [⟨55296, 57344⟩]) = .tuple #[.int .i64 0, .int .i64 14] := by
  rw [show rightA [⟨55296, 57344⟩] = (0, 14) by decide]; rfl
theorem n_right3 : rowV (rightA []) = .tuple #[.int .i64 0, .int .i64 0] := by
  rw [show rightA [] = (0, 0) by decide]; rfl
theorem n_meet1 : meetV (meetA [⟨1, 2⟩, ⟨5, 9⟩] [⟨9, 12⟩]) = .tuple #[.int .i64 1, .bool true] := by
  rw [show meetA [⟨1, 2⟩, ⟨5, 9⟩] [⟨9, 12⟩] = (1, true) by decide]; rfl
theorem n_meet2 : meetV (meetA [⟨1, 2⟩] [⟨3, 4⟩]) = .tuple #[.int .i64 0, .bool false] := by
  rw [show meetA [⟨1, 2⟩] [⟨3, 4⟩] = (0, false) by decide]; rfl
theorem n_size : sizeA [⟨0, 1114111⟩] = 1112064 := by decide
theorem n_in : inB [] 65 = false := by decide
theorem alloc_b (w : World) (o : Obj) : Below w.heap.size w (w.alloc o) := (Below.refl _ w).alloc (Nat.le_refl _) o
set_option maxHeartbeats 4000000 in
theorem numbers_walk (w : World) (hG : GL w) : Calls Tryd.prog 3 #[] w fun e w' => e = .returned (.bool true) ∧ Below w.heap.size w w' := by
  have H1 := fun (wx : World) (hx : GL wx) => right_any (some ⟨wx.heap.size, 0, none⟩) 1 [⟨5, 4⟩] (wx.alloc (.cells (cellsS [⟨5, 4⟩]).toArray 26)) (by decide) (SPS.new wx _ 26) (hx.below (alloc_b _ _))
  rw [n_right1] at H1
  have H2 := fun (wx : World) (hx : GL wx) => right_any (some ⟨wx.heap.size, 0, none⟩) 1 [⟨55296, 57344⟩] (wx.alloc (.cells (cellsS [⟨55296, 57344⟩]).toArray 26)) (by decide) (SPS.new wx _ 26) (hx.below (alloc_b _ _))
  rw [n_right2] at H2
  have H3 := fun (wx : World) (hx : GL wx) => right_any none 0 [] wx (by decide) (.inl rfl) hx
  rw [n_right3] at H3
  have H4 := fun (wx : World) (hx : GL wx) => meet_any (some ⟨wx.heap.size, 0, none⟩) (some ⟨wx.heap.size + 1, 0, none⟩) 2 1 [⟨1, 2⟩, ⟨5, 9⟩] [⟨9, 12⟩] ((wx.alloc (.cells (cellsS [⟨1, 2⟩, ⟨5, 9⟩]).toArray 26)).alloc (.cells (cellsS [⟨9, 12⟩]).toArray 26)) (by decide) (by decide)
    ((SPS.new wx [⟨1, 2⟩, ⟨5, 9⟩] 26).below (alloc_b _ _)) (by have := SPS.new (wx.alloc (.cells (cellsS [⟨1, 2⟩, ⟨5, 9⟩]).toArray 26)) [⟨9, 12⟩] 26; rw [World.size_alloc] at this; exact this) (rgt_of (by decide)) (rgt_of (by decide)) ((hx.below (alloc_b _ _)).below (alloc_b _ _))
  rw [n_meet1] at H4
  have H5 := fun (wx : World) (hx : GL wx) => meet_any (some ⟨wx.heap.size, 0, none⟩) (some ⟨wx.heap.size + 1, 0, none⟩) 1 1 [⟨1, 2⟩] [⟨3, 4⟩] ((wx.alloc (.cells (cellsS [⟨1, 2⟩]).toArray 26)).alloc (.cells (cellsS [⟨3, 4⟩]).toArray 26)) (by decide) (by decide)
    ((SPS.new wx [⟨1, 2⟩] 26).below (alloc_b _ _)) (by have := SPS.new (wx.alloc (.cells (cellsS [⟨1, 2⟩]).toArray 26)) [⟨3, 4⟩] 26; rw [World.size_alloc] at this; exact this) (rgt_of (by decide)) (rgt_of (by decide)) ((hx.below (alloc_b _ _)).below (alloc_b _ _))
  rw [n_meet2] at H5
  have H6 := fun (wx : World) (hx : GL wx) => size_any (some ⟨wx.heap.size, 0, none⟩) 1 [⟨0, 1114111⟩] (wx.alloc (.cells (cellsS [⟨0, 1114111⟩]).toArray 26)) (by decide) (SPS.new wx _ 26) (rgt_of (by decide)) (hx.below (alloc_b _ _))
  rw [n_size] at H6
  have H7 := fun (wx : World) (hx : GL wx) => in_any none 0 [] 65 wx (by decide) (by decide) (.inl rfl) Rgt.nil hx
  rw [n_in] at H7
  simp only [List.length_cons, List.length_nil, Nat.reduceAdd] at H1 H2 H3 H4 H5 H6 H7
  go_enter Tryd.func3, Tryd.ntmps3
  go_wp2_with fail
  refine (H1 _ hG).mono ?_
  rintro e w1 ⟨rfl, hb1⟩
  have hG1 := (hG.below (alloc_b _ _)).below hb1
  have B1 := (alloc_b w _).trans (hb1.mono (alloc_b w _).size)
  clear H1 hG hb1
  go_wp2_with fail
  refine (H2 _ hG1).mono ?_
  rintro e w2 ⟨rfl, hb2⟩
  have hG2 := (hG1.below (alloc_b _ _)).below hb2
  have B2 := (B1.trans ((alloc_b w1 _).mono B1.size)).trans (hb2.mono (Nat.le_trans B1.size (alloc_b w1 _).size))
  clear H2 hG1 hb2 B1
  go_wp2_with fail
  refine (H3 _ hG2).mono ?_
  rintro e w3 ⟨rfl, hb3⟩
  have hG3 := hG2.below hb3
  have B3 := B2.trans (hb3.mono B2.size)
  clear H3 hG2 hb3 B2
  go_wp2_with fail
  refine (H4 _ hG3).mono ?_
  rintro e w4 ⟨rfl, hb4⟩
  have hG4 := ((hG3.below (alloc_b _ _)).below (alloc_b _ _)).below hb4
  have B4 := ((B3.alloc B3.size _).alloc (Nat.le_trans B3.size (alloc_b w3 _).size) _).trans (hb4.mono (Nat.le_trans B3.size (Nat.le_trans (alloc_b w3 _).size (alloc_b _ _).size)))
  clear H4 hG3 hb4 B3
  go_wp2_with fail
  refine (H5 _ hG4).mono ?_
  rintro e w5 ⟨rfl, hb5⟩
  have hG5 := ((hG4.below (alloc_b _ _)).below (alloc_b _ _)).below hb5
  have B5 := ((B4.alloc B4.size _).alloc (Nat.le_trans B4.size (alloc_b w4 _).size) _).trans (hb5.mono (Nat.le_trans B4.size (Nat.le_trans (alloc_b w4 _).size (alloc_b _ _).size)))
  clear H5 hG4 hb5 B4
  go_wp2_with fail
  refine (H6 _ hG5).mono ?_
  rintro e w6 ⟨rfl, hb6⟩
  have hG6 := (hG5.below (alloc_b _ _)).below hb6
  have B6 := (B5.alloc B5.size _).trans (hb6.mono (Nat.le_trans B5.size (alloc_b w5 _).size))
  clear H6 hG5 hb6 B5
  go_wp2_with fail
  refine (H7 _ hG6).mono ?_
  rintro e w7 ⟨rfl, hb7⟩
  have hG7 := hG6.below hb7
  have B7 := B6.trans (hb7.mono B6.size)
  clear H7 hG6 hb7 B6
  go_wp2_with fail
  refine (known_any _ hG7).mono ?_
  rintro e w8 ⟨rfl, hb8⟩
  go_wp2_with fail
  go_ret
  exact ⟨rfl, B7.trans (hb8.mono B7.size)⟩
end Go.Proofs.YtaenmgikpkkflaaDoor
