/- tesseralaw4.table, known, right: their contracts. -/
import Derived.Test.YtddeamecgbdajaaDoorCHouse
namespace Go.Proofs.YtddeamecgbdajaaDoor
open Go.RowKit Go.Sort Go.Joins
theorem house_ok : checkA houA houB houC = (0, 0, 0) := by decide +kernel
theorem none_bad : checkA [] [] [] = (20, 3, 0) := by decide +kernel
theorem hou_rgt : Rgt houA ∧ Rgt houB ∧ Rgt houC := (check_pass (by rw [house_ok])).1.rgt (by omega)
set_option maxRecDepth 100000 in
set_option maxHeartbeats 2000000 in
theorem table_any (w : World) (hG : GL w) : Calls Tryd.prog 10 #[] w fun e w' => ∃ g, e = .returned (.pointer (some ⟨g, 0, none⟩)) ∧ TabAt w' g houA houB houC ∧ Below w.heap.size w w' := by
  have H := fun (a b c : Option Addr) (wx : World) (h1 : Lst wx a 2 houA) (h2 : Lst wx b 1 houB) (h3 : Lst wx c 2 houC) (hg : GL wx) => new_any a b c 2 1 2 houA houB houC wx h1 h2 h3 hg
  rw [house_ok] at H
  unfold wrV at H
  rw [show houA.length = 2 from rfl, show houB.length = 1 from rfl, show houC.length = 2 from rfl] at H
  go_enter Tryd.func10, Tryd.ntmps10
  go_wp2_with fail
  refine (house_any _).mono ?_
  rintro e w1 ⟨s0, s1, a, b, c, rfl, hA, hB, hC, hb1⟩
  have ba : Below w1.heap.size w1 (w1.alloc (.cells #[.slice s0 6 6, .slice s1 6 6, .slice a 2 2, .slice b 1 1, .slice c 2 2] 47)) := (Below.refl _ _).alloc (Nat.le_refl _) _
  have H := H a b c _ ⟨Nat.le_refl _, by omega, hA.below ba⟩ ⟨Nat.le_refl _, by omega, hB.below ba⟩ ⟨Nat.le_refl _, by omega, hC.below ba⟩ ((hG.below hb1).below ba)
  have B1 := hb1.trans (ba.mono hb1.size)
  clear hA hB hC hG hb1 ba
  go_wp2_with fail
  refine H.mono ?_
  rintro e w2 ⟨p, rfl, h2, -, hb2⟩
  obtain ⟨g, rfl, hO⟩ := h2 (by first | trivial | rfl)
  have B2 := B1.trans (hb2.mono B1.size)
  have bb : Below w2.heap.size w2 (w2.alloc (.cells #[.int .i64 0, .int .i64 0, .int .i64 0] 25)) := (Below.refl _ _).alloc (Nat.le_refl _) _
  have hT := hO.tab.below bb
  have B3 := B2.trans (bb.mono B2.size)
  clear H h2 hO hb2 B1 B2 bb
  go_wp2_with fail
  go_ret
  exact ⟨g, rfl, hT, B3⟩
theorem wr_eq : ∀ W, (binOp BinOp.eql 25 (.agg #[.int .i64 20, .int .i64 3, .int .i64 0]) (.agg #[.int .i64 20, .int .i64 3, .int .i64 0])).run Tryd.prog W = .ok (.bool true) W := fun W => by kernel_rfl
set_option maxRecDepth 100000 in
set_option maxHeartbeats 4000000 in
theorem known_any (w : World) (hG : GL w) : Calls Tryd.prog 12 #[] w fun e w' => e = .returned (.bool true) ∧ Below w.heap.size w w' := by
  have HN := fun (wx : World) (hg : GL wx) => new_any none none none 0 0 0 [] [] [] wx ⟨Nat.le_refl _, by omega, .inl rfl⟩ ⟨Nat.le_refl _, by omega, .inl rfl⟩ ⟨Nat.le_refl _, by omega, .inl rfl⟩ hg
  rw [none_bad] at HN
  unfold wrV at HN
  simp only [List.length_nil] at HN
  obtain ⟨r1, r2, r3⟩ := hou_rgt
  have H1 := fun (g : Nat) (wx : World) (h : TabAt wx g houA houB houC) (hg : GL wx) => of_any g houA houB houC 97 wx h r1 r2 r3 hg
  have H2 := fun (g : Nat) (wx : World) (h : TabAt wx g houA houB houC) (hg : GL wx) => of_any g houA houB houC 48 wx h r1 r2 r3 hg
  have H3 := fun (g : Nat) (wx : World) (h : TabAt wx g houA houB houC) (hg : GL wx) => of_any g houA houB houC 8364 wx h r1 r2 r3 hg
  have H4 := fun (g : Nat) (wx : World) (h : TabAt wx g houA houB houC) (hg : GL wx) => of_any g houA houB houC (-1) wx h r1 r2 r3 hg
  rw [show kindOf houA houB houC 97 = 1 by decide +kernel] at H1
  rw [show kindOf houA houB houC 48 = 2 by decide +kernel] at H2
  rw [show kindOf houA houB houC 8364 = 4 by decide +kernel] at H3
  rw [show kindOf houA houB houC (-1) = 4 by decide +kernel] at H4
  have heq := wr_eq
  clear r1 r2 r3
  go_enter Tryd.func12, Tryd.ntmps12
  go_wp2_with fail
  refine (table_any _ hG).mono ?_
  rintro e w1 ⟨g, rfl, hT, hb1⟩
  have hG1 := hG.below hb1
  clear hG
  go_wp2_with fail
  refine (HN _ hG1).mono ?_
  rintro e w2 ⟨p, rfl, -, hp, hb2⟩
  obtain rfl := hp (by decide)
  have hT2 := hT.below hb2
  have hG2 := hG1.below hb2
  have B2 := hb1.trans (hb2.mono hb1.size)
  have ba : Below w2.heap.size w2 (w2.alloc (.cells #[.int .i64 20, .int .i64 3, .int .i64 0] 25)) := (Below.refl _ _).alloc (Nat.le_refl _) _
  have hX := heap_alloc_new w2 (.cells #[.int .i64 20, .int .i64 3, .int .i64 0] 25)
  have hT3 := hT2.below ba
  have hG3 := hG2.below ba
  have B3 := B2.trans (ba.mono B2.size)
  have hlt : w2.heap.size < (w2.alloc (.cells #[.int .i64 20, .int .i64 3, .int .i64 0] 25)).heap.size := by simp
  clear HN hp hT hG1 hb1 hb2 hT2 hG2 B2 ba
  have HX : Hid ((w2.alloc (.cells #[.int .i64 20, .int .i64 3, .int .i64 0] 25)).heap[w2.heap.size]? = some (.cells #[.int .i64 20, .int .i64 3, .int .i64 0] 25 (0, 0)) ∧ w2.heap.size < (w2.alloc (.cells #[.int .i64 20, .int .i64 3, .int .i64 0] 25)).heap.size) := ⟨hX, hlt⟩
  clear hX hlt
  go_wp2_with fail
  obtain ⟨W3, hW3⟩ : ∃ W3, W3 = w2.alloc (.cells #[.int .i64 20, .int .i64 3, .int .i64 0] 25) := ⟨_, rfl⟩
  rw [← hW3] at hT3 hG3 B3 HX ⊢
  clear hW3
  obtain ⟨zz, hzz⟩ : ∃ zz, zz = w2.heap.size := ⟨_, rfl⟩
  rw [← hzz] at HX ⊢
  clear hzz
  refine (H1 g _ hT3 hG3).mono ?_
  rintro e w4 ⟨rfl, hb4⟩
  have hT4 := hT3.below hb4
  have hG4 := hG3.below hb4
  have B4 := B3.trans (hb4.mono B3.size)
  have HX4 : Hid (w4.heap[zz]? = some (.cells #[.int .i64 20, .int .i64 3, .int .i64 0] 25 (0, 0)) ∧ zz < w4.heap.size) := ⟨(hb4.block _ HX.out.2).trans HX.out.1, Nat.lt_of_lt_of_le HX.out.2 hb4.size⟩
  clear H1 hT3 hG3 hb4 HX B3
  go_wp2_with fail
  refine (H2 g _ hT4 hG4).mono ?_
  rintro e w5 ⟨rfl, hb4⟩
  have hT5 := hT4.below hb4
  have hG5 := hG4.below hb4
  have B5 := B4.trans (hb4.mono B4.size)
  have HX5 : Hid (w5.heap[zz]? = some (.cells #[.int .i64 20, .int .i64 3, .int .i64 0] 25 (0, 0)) ∧ zz < w5.heap.size) := ⟨(hb4.block _ HX4.out.2).trans HX4.out.1, Nat.lt_of_lt_of_le HX4.out.2 hb4.size⟩
  clear H2 hT4 hG4 hb4 HX4 B4
  go_wp2_with fail
  refine (H3 g _ hT5 hG5).mono ?_
  rintro e w6 ⟨rfl, hb4⟩
  have hT6 := hT5.below hb4
  have hG6 := hG5.below hb4
  have B6 := B5.trans (hb4.mono B5.size)
  have HX6 : Hid (w6.heap[zz]? = some (.cells #[.int .i64 20, .int .i64 3, .int .i64 0] 25 (0, 0)) ∧ zz < w6.heap.size) := ⟨(hb4.block _ HX5.out.2).trans HX5.out.1, Nat.lt_of_lt_of_le HX5.out.2 hb4.size⟩
  clear H3 hT5 hG5 hb4 HX5 B5
  go_wp2_with fail
  refine (H4 g _ hT6 hG6).mono ?_
  rintro e w7 ⟨rfl, hb4⟩
  have B7 := B6.trans (hb4.mono B6.size)
  have hx7 := (hb4.block _ HX6.out.2).trans HX6.out.1
  have x0 := cell_of_block hx7 (i := 0)
  have x1 := cell_of_block hx7 (i := 1)
  have x2 := cell_of_block hx7 (i := 2)
  clear H4 hT6 hG6 hb4 HX6 B6 hx7
  go_wp2_with fail
  go_ret
  exact ⟨rfl, B7⟩
set_option maxRecDepth 100000 in
set_option maxHeartbeats 4000000 in
theorem lawRight_any (s0 s1 a b c : Option Addr) (n0 c0 n1 c1 ca cb cc : Nat) (A B C : List Sp) (w : World) (hA : Lst w a ca A) (hB : Lst w b cb B) (hC : Lst w c cc C) (hG : GL w) :
    Calls Tryd.prog 14 #[dtV (.slice s0 n0 c0) (.slice s1 n1 c1) a b c A.length ca B.length cb C.length cc] w fun e w' => ∃ p, e = .returned (.tuple #[.pointer p, .bool (decide ((checkA A B C).1 = 0)), .bool true]) ∧ ((checkA A B C).1 = 0 → ∃ g, p = some ⟨g, 0, none⟩ ∧ OwnT w' w.heap.size g A B C) ∧ ((checkA A B C).1 ≠ 0 → p = none) ∧ Below w.heap.size w w' := by
  have H1 := fun (wx : World) (h1 : Lst wx a ca A) (h2 : Lst wx b cb B) (h3 : Lst wx c cc C) (hg : GL wx) => new_any a b c ca cb cc A B C wx h1 h2 h3 hg
  have H2 := fun (wx : World) (h1 : Lst wx a ca A) (h2 : Lst wx b cb B) (h3 : Lst wx c cc C) => refCheck_any a b c ca cb cc A B C wx h1 h2 h3
  have ba : Below w.heap.size w (w.alloc (.cells #[.slice s0 n0 c0, .slice s1 n1 c1, .slice a A.length ca, .slice b B.length cb, .slice c C.length cc] 47)) := (Below.refl _ _).alloc (Nat.le_refl _) _
  have hX := heap_alloc_new w (.cells #[.slice s0 n0 c0, .slice s1 n1 c1, .slice a A.length ca, .slice b B.length cb, .slice c C.length cc] 47)
  have hlt : w.heap.size < (w.alloc (.cells #[.slice s0 n0 c0, .slice s1 n1 c1, .slice a A.length ca, .slice b B.length cb, .slice c C.length cc] 47)).heap.size := by simp
  have HX : Hid ((w.alloc (.cells #[.slice s0 n0 c0, .slice s1 n1 c1, .slice a A.length ca, .slice b B.length cb, .slice c C.length cc] 47)).heap[w.heap.size]? = some (.cells #[.slice s0 n0 c0, .slice s1 n1 c1, .slice a A.length ca, .slice b B.length cb, .slice c C.length cc] 47 (0, 0)) ∧ w.heap.size < (w.alloc (.cells #[.slice s0 n0 c0, .slice s1 n1 c1, .slice a A.length ca, .slice b B.length cb, .slice c C.length cc] 47)).heap.size) := ⟨hX, hlt⟩
  have hA1 := hA.below ba
  have hB1 := hB.below ba
  have hC1 := hC.below ba
  have hG1 := hG.below ba
  unfold wrV at H1 H2
  obtain ⟨⟨y, li, ro⟩, hy⟩ : ∃ y, y = checkA A B C := ⟨_, rfl⟩
  rw [← hy] at H1 H2 ⊢
  clear hX hlt hA hB hC hG hy
  have q1 : ((y : Int) == (y : Int)) = true := by simp
  have q2 : ((li : Int) == (li : Int)) = true := by simp
  have q3 : ((ro : Int) == (ro : Int)) = true := by simp
  unfold dtV
  go_enter Tryd.func14, Tryd.ntmps14
  go_wp2_with fail
  obtain ⟨W0, hW0⟩ : ∃ W0, W0 = w.alloc (.cells #[.slice s0 n0 c0, .slice s1 n1 c1, .slice a A.length ca, .slice b B.length cb, .slice c C.length cc] 47) := ⟨_, rfl⟩
  rw [← hW0] at ba hA1 hB1 hC1 hG1 HX ⊢
  clear hW0
  refine (H1 _ hA1 hB1 hC1 hG1).mono ?_
  rintro e w1 ⟨p, rfl, hp1, hp2, hb1⟩
  have bb : Below w1.heap.size w1 (w1.alloc (.cells #[.int .i64 (y : Nat), .int .i64 (li : Nat), .int .i64 (ro : Nat)] 25)) := (Below.refl _ _).alloc (Nat.le_refl _) _
  have hx1 := (bb.block _ (Nat.lt_of_lt_of_le HX.out.2 hb1.size)).trans ((hb1.block _ HX.out.2).trans HX.out.1)
  have x2 := cell_of_block hx1 (i := 2)
  have x3 := cell_of_block hx1 (i := 3)
  have x4 := cell_of_block hx1 (i := 4)
  have B1 := ba.trans (hb1.mono ba.size)
  have hA2 := (hA1.below hb1).below bb
  have hB2 := (hB1.below hb1).below bb
  have hC2 := (hC1.below hb1).below bb
  have B2 := B1.trans (bb.mono B1.size)
  have hU := heap_alloc_new w1 (.cells #[.int .i64 (y : Nat), .int .i64 (li : Nat), .int .i64 (ro : Nat)] 25)
  have hlu : w1.heap.size < (w1.alloc (.cells #[.int .i64 (y : Nat), .int .i64 (li : Nat), .int .i64 (ro : Nat)] 25)).heap.size := by simp
  have HU : Hid ((w1.alloc (.cells #[.int .i64 (y : Nat), .int .i64 (li : Nat), .int .i64 (ro : Nat)] 25)).heap[w1.heap.size]? = some (.cells #[.int .i64 (y : Nat), .int .i64 (li : Nat), .int .i64 (ro : Nat)] 25 (0, 0)) ∧ w1.heap.size < (w1.alloc (.cells #[.int .i64 (y : Nat), .int .i64 (li : Nat), .int .i64 (ro : Nat)] 25)).heap.size) := ⟨hU, hlu⟩
  have HP1 : Hid (y = 0 → ∃ g, p = some ⟨g, 0, none⟩ ∧ OwnT (w1.alloc (.cells #[.int .i64 (y : Nat), .int .i64 (li : Nat), .int .i64 (ro : Nat)] 25)) w.heap.size g A B C) := fun h => by
    obtain ⟨g, h1, h2⟩ := hp1 h
    exact ⟨g, h1, (h2.low ba.size).below bb⟩
  have HP2 : Hid (y ≠ 0 → p = none) := hp2
  clear H1 hA1 hB1 hC1 hG1 hp1 hp2 hb1 bb hx1 ba HX B1 hU hlu
  go_wp2_with fail
  obtain ⟨W2, hW2⟩ : ∃ W2, W2 = w1.alloc (.cells #[.int .i64 (y : Nat), .int .i64 (li : Nat), .int .i64 (ro : Nat)] 25) := ⟨_, rfl⟩
  rw [← hW2] at HP1 HU B2 hA2 hB2 hC2 ⊢
  clear hW2 x2 x3 x4
  obtain ⟨zu, hzu⟩ : ∃ zu, zu = w1.heap.size := ⟨_, rfl⟩
  rw [← hzu] at HU ⊢
  clear hzu
  refine (H2 _ hA2 hB2 hC2).mono ?_
  rintro e w3 ⟨rfl, hb3⟩
  have bc : Below w3.heap.size w3 (w3.alloc (.cells #[.int .i64 (y : Nat), .int .i64 (li : Nat), .int .i64 (ro : Nat)] 83)) := (Below.refl _ _).alloc (Nat.le_refl _) _
  have hu3 := (bc.block _ (Nat.lt_of_lt_of_le HU.out.2 hb3.size)).trans ((hb3.block _ HU.out.2).trans HU.out.1)
  have u0 := cell_of_block hu3 (i := 0)
  have u1 := cell_of_block hu3 (i := 1)
  have u2 := cell_of_block hu3 (i := 2)
  have B3 := (B2.trans (hb3.mono B2.size)).trans (bc.mono (Nat.le_trans B2.size hb3.size))
  have HP3 : Hid (y = 0 → ∃ g, p = some ⟨g, 0, none⟩ ∧ OwnT (w3.alloc (.cells #[.int .i64 (y : Nat), .int .i64 (li : Nat), .int .i64 (ro : Nat)] 83)) w.heap.size g A B C) := fun h => by
    obtain ⟨g, h1, h2⟩ := HP1.out h
    exact ⟨g, h1, (h2.below hb3).below bc⟩
  clear H2 hA2 hB2 hC2 HP1 HU B2 hb3 bc hu3
  by_cases h0 : y = 0
  · obtain ⟨g, rfl, hO⟩ := HP3.out h0
    subst h0
    have HO : Hid (OwnT (w3.alloc (.cells #[.int .i64 ((0 : Nat) : Int), .int .i64 (li : Nat), .int .i64 (ro : Nat)] 83)) w.heap.size g A B C) := hO
    clear HP3 HP2 hO q1
    rw [show ((0 : Nat) : Int) = 0 from rfl] at u0 u1 u2 HO B3 ⊢
    go_wp2_with fail
    exact bodyPost_ret (v := .tuple #[.pointer (some ⟨g, 0, none⟩), .bool true, .bool true]) (by simp [results, Tryd.results14, go_sem]) rfl ⟨_, rfl, ⟨g, rfl, HO.out⟩, B3⟩
  · obtain rfl := HP2.out h0
    have hd : decide (y = 0) = false := decide_eq_false h0
    have hne : ((y : Int) == 0) = false := by simp; omega
    clear HP3 HP2
    go_wp2_with fail
    exact bodyPost_ret (v := .tuple #[.pointer none, .bool false, .bool true]) (by simp [results, Tryd.results14, go_sem]) rfl ⟨_, by first | rfl | rw [hd], fun h => absurd h h0, fun _ => rfl, B3⟩
end Go.Proofs.YtddeamecgbdajaaDoor
