/- tesseralaw5.fault, model.Bare: their contracts; ModelNumbers: the walk. -/
import Derived.Test.YtlnebbciefdpoaaDoorMKnown
namespace Go.Proofs.YtlnebbciefdpoaaDoor
open Go.RowKit Go.Sort Go.Joins
set_option linter.unusedVariables false
def spc : List Sp := [⟨32, 32⟩]
theorem made_u8 (n j : Nat) (h : j < n) : (madeCells (Value.int .u8 0).cells (n * 1))[j]? = some (.int .u8 0) := by simp [madeCells, h, Value.cells, Nat.mod_one]
theorem zero_get (n j : Nat) : (List.replicate n (0 : Int)).getD j 0 = 0 := by
  rw [List.getD_eq_getElem?_getD, List.getElem?_replicate]
  split <;> rfl
theorem mwf_mem {ms : List Mg} (h : ∀ x ∈ ms, W64 x.l ∧ W64 x.r ∧ W64 x.i) : MWf ms := fun _ _ hx => h _ (List.mem_of_getElem? hx)
theorem lstSpc {X : World} {g : Nat} (hs : X.heap.size = g) : Lst (X.alloc (.cells #[.int .i32 32, .int .i32 32] 30)) (some ⟨g, 0, none⟩) 1 spc := by
  refine ⟨Nat.le_refl _, by omega, ?_⟩
  subst hs
  exact SPS.new X spc _
theorem lstNil (w : World) : Lst w none 0 [] := ⟨Nat.le_refl _, by omega, .inl rfl⟩
set_option maxRecDepth 100000 in
set_option maxHeartbeats 4000000 in
theorem fault_any (aw am : Option Addr) (cw cm : Nat) (ws : List ByteArray) (ms : List Mg) (w : World) (hwf : MWf ms) (hn : ws.length ≤ 4611686018427387) (hW : WSP w aw ws) (hM : MSP w am ms) (hG : GL w) (y li ro : Nat) (hy : checkD ws ms [] [] spc = (y, li, ro)) :
    Calls Tryd.prog 13 #[.slice aw ws.length cw, .slice am ms.length cm] w fun e w' => e = .returned (.agg #[.int .i64 (y : Nat), .int .i64 (li : Nat), .int .i64 (ro : Nat)]) ∧ Below w.heap.size w w' := by
  have hR := Blk.new w (.cells #[.int .i64 0, .int .i64 0, .int .i64 0] 26)
  have b1 := box_below w (.cells #[.int .i64 0, .int .i64 0, .int .i64 0] 26)
  have b2 := box_below (w.alloc (.cells #[.int .i64 0, .int .i64 0, .int .i64 0] 26)) (.cells #[.int .i32 32, .int .i32 32] 30)
  have hR2 := hR.up b2
  have B2 := b1.trans (b2.mono b1.size)
  have hs : (w.alloc (.cells #[.int .i64 0, .int .i64 0, .int .i64 0] 26)).heap.size = w.heap.size + 1 := by simp
  have hN := mnew_any aw am none none (some ⟨w.heap.size + 1, 0, none⟩) cw cm 0 0 1 ws ms [] [] spc ((w.alloc (.cells #[.int .i64 0, .int .i64 0, .int .i64 0] 26)).alloc (.cells #[.int .i32 32, .int .i32 32] 30)) hwf hn (hW.below B2) (hM.below B2) (lstNil _) (lstNil _) (lstSpc hs) (hG.below B2)
  rw [hy] at hN
  unfold f3V at hN
  simp only [List.length_nil] at hN
  rw [show spc.length = 1 from rfl] at hN
  clear hR b1 b2 hW hM hG hs hy
  go_enter Tryd.func13, Tryd.ntmps13
  go_wp2_with fail
  refine hN.mono ?_
  rintro e w1 ⟨p, rfl, -, -, hb1⟩
  have hR3 := hR2.up hb1
  have B3 := B2.trans (hb1.mono B2.size)
  have bn := box_below w1 (.cells #[.int .i64 (y : Nat), .int .i64 (li : Nat), .int .i64 (ro : Nat)] 26)
  have hR4 := hR3.up bn
  have hF := Blk.new w1 (.cells #[.int .i64 (y : Nat), .int .i64 (li : Nat), .int .i64 (ro : Nat)] 26)
  have B4 := B3.trans (bn.mono B3.size)
  have f0 := hF.cell 0
  have f1 := hF.cell 1
  have f2 := hF.cell 2
  have ff := fun j => hF.free j
  have z0 := hR4.cell 0
  have z1 := hR4.cell 1
  have z2 := hR4.cell 2
  have zf := fun j => hR4.free j
  clear hN hR2 B2 hR3 hb1 B3 bn hF
  go_wp2_with fail
  have hRR : (w1.alloc (.cells #[.int .i64 (y : Nat), .int .i64 (li : Nat), .int .i64 (ro : Nat)] 26)).heap[w.heap.size]? = some (.cells #[.int .i64 0, .int .i64 0, .int .i64 0] 26 (0, 0)) := hR4
  have hfin := wr_set hRR (u0 := .int .i64 (y : Nat)) (u1 := .int .i64 (li : Nat)) (u2 := .int .i64 (ro : Nat))
  have hBf := wr_below B4 (g := w.heap.size) (u0 := .int .i64 (y : Nat)) (u1 := .int .i64 (li : Nat)) (u2 := .int .i64 (ro : Nat)) (Nat.le_refl _)
  have y0 := cell_of_block hfin (i := 0)
  have y1 := cell_of_block hfin (i := 1)
  have y2 := cell_of_block hfin (i := 2)
  exact bodyPost_ret (v := .agg #[.int .i64 (y : Nat), .int .i64 (li : Nat), .int .i64 (ro : Nat)]) (by simp [results, Tryd.results13, go_sem, y0, y1, y2]) rfl ⟨rfl, hBf⟩
set_option maxRecDepth 100000 in
set_option maxHeartbeats 4000000 in
theorem bare_any (a b c : Option Addr) (ca cb cc : Nat) (A B C : List Sp) (w : World) (hA : Lst w a ca A) (hB : Lst w b cb B) (hC : Lst w c cc C) (hG : GL w) (y li ro : Nat) (hy : checkD [] [] A B C = (y, li, ro)) :
    Calls Tryd.prog 9 #[.slice a A.length ca, .slice b B.length cb, .slice c C.length cc] w fun e w' => ∃ p, e = .returned (.tuple #[.pointer p, .agg #[.int .i64 (y : Nat), .int .i64 (li : Nat), .int .i64 (ro : Nat)]]) ∧ (y = 0 → ∃ g, p = some ⟨g, 0, none⟩ ∧ ModelAt w' w.heap.size g [] [] A B C) ∧ (y ≠ 0 → p = none) ∧ Below w.heap.size w w' := by
  have hR := Blk.new w (.cells #[.int .i64 0, .int .i64 0, .int .i64 0] 26)
  have b1 := box_below w (.cells #[.int .i64 0, .int .i64 0, .int .i64 0] 26)
  have hN := mnew_any none none a b c 0 0 ca cb cc [] [] A B C (w.alloc (.cells #[.int .i64 0, .int .i64 0, .int .i64 0] 26)) (fun i x h => by simp at h) (by simp) (.inl rfl) (.inl rfl) (hA.below b1) (hB.below b1) (hC.below b1) (hG.below b1)
  rw [hy] at hN
  unfold f3V at hN
  simp only [List.length_nil] at hN
  have hs : (w.alloc (.cells #[.int .i64 0, .int .i64 0, .int .i64 0] 26)).heap.size = w.heap.size + 1 := by simp
  clear hA hB hC hG hy
  go_enter Tryd.func9, Tryd.ntmps9
  go_wp2_with fail
  refine hN.mono ?_
  rintro e w1 ⟨p, rfl, hp1, hp2, hb1⟩
  rw [hs] at hp1
  have HP1 : Hid (y = 0 → ∃ g, p = some ⟨g, 0, none⟩ ∧ ModelAt w1 (w.heap.size + 1) g [] [] A B C) := hp1
  have HP2 : Hid (y ≠ 0 → p = none) := hp2
  have hR3 := hR.up hb1
  have B3 := b1.trans (hb1.mono b1.size)
  have z0 := hR3.cell 0
  have z1 := hR3.cell 1
  have z2 := hR3.cell 2
  have zf := fun j => hR3.free j
  clear hN hR b1 hb1 hs hp1 hp2
  go_wp2_with fail
  have hRR : w1.heap[w.heap.size]? = some (.cells #[.int .i64 0, .int .i64 0, .int .i64 0] 26 (0, 0)) := hR3
  have hfin := wr_set hRR (u0 := .int .i64 (y : Nat)) (u1 := .int .i64 (li : Nat)) (u2 := .int .i64 (ro : Nat))
  have hBf := wr_below B3 (g := w.heap.size) (u0 := .int .i64 (y : Nat)) (u1 := .int .i64 (li : Nat)) (u2 := .int .i64 (ro : Nat)) (Nat.le_refl _)
  have y0 := cell_of_block hfin (i := 0)
  have y1 := cell_of_block hfin (i := 1)
  have y2 := cell_of_block hfin (i := 2)
  exact bodyPost_ret (v := .tuple #[.pointer p, .agg #[.int .i64 (y : Nat), .int .i64 (li : Nat), .int .i64 (ro : Nat)]]) (by simp [results, Tryd.results9, go_sem, y0, y1, y2]) rfl ⟨p, rfl, fun h => by
    obtain ⟨g, h1, h2⟩ := HP1.out h
    exact ⟨g, h1, (((h2.away (b := w.heap.size) (o := 0) (by omega) (.int .i64 (y : Nat))).away (b := w.heap.size) (o := 1) (by omega) (.int .i64 (li : Nat))).away (b := w.heap.size) (o := 2) (by omega) (.int .i64 (ro : Nat))).low (by omega)⟩, HP2.out, hBf⟩
def longW : ByteArray := strOfNums (List.replicate 257 0)
theorem longW_size : longW.size = 257 := by decide +kernel
theorem chk0 : checkD [⟨#[97, 98]⟩, ⟨#[97, 98, 99]⟩] [⟨97, 98, 256⟩, ⟨256, 99, 257⟩] [] [] spc = (0, 0, 0) := by decide +kernel
theorem chk1 : checkD [⟨#[97, 98]⟩, ⟨#[97, 98, 99]⟩] [⟨256, 99, 257⟩, ⟨97, 98, 256⟩] [] [] spc = (23, 5, 0) := by decide +kernel
theorem chk2 : checkD [⟨#[97, 98]⟩] [⟨97, 99, 256⟩] [] [] spc = (25, 5, 0) := by decide +kernel
theorem chk3 : checkD [⟨#[97, 98]⟩] [⟨97, 98, 257⟩] [] [] spc = (24, 5, 0) := by decide +kernel
theorem chk4 : checkD [⟨#[97, 98]⟩] [⟨97, 98, 97⟩] [] [] spc = (24, 5, 0) := by decide +kernel
theorem chk5 : checkD [⟨#[97, 98]⟩, ⟨#[97, 98]⟩] [⟨97, 98, 256⟩, ⟨97, 98, 256⟩] [] [] spc = (22, 4, 1) := by decide +kernel
theorem chk6 : checkD [⟨#[97]⟩] [⟨97, 98, 256⟩] [] [] spc = (21, 4, 0) := by decide +kernel
theorem chk7 : checkD [longW] [⟨97, 98, 256⟩] [] [] spc = (21, 4, 0) := by
  have h : badW [longW] 0 = 21 := by unfold badW; simp only [List.getElem?_cons_zero]; rw [if_pos (by rw [longW_size]; omega)]
  have h2 : firstBad (badW [longW]) 1 = (21, 0) := by rw [← h]; exact firstBad_some (by omega) (fun j hj => absurd hj (Nat.not_lt_zero _)) (by rw [h]; decide)
  have h3 : (checkA [] [] spc).1 = 0 := by decide +kernel
  unfold checkD
  simp only [List.length_cons, List.length_nil]
  rw [if_neg (by omega), if_neg (by simp), if_neg (by simpa using h3), h2, if_pos (by decide)]
theorem chk8 : checkD [⟨#[97, 98]⟩] [] [] [] spc = (4, 4, 0) := by decide +kernel
theorem chk9 : checkD [] (List.replicate 4097 ⟨0, 0, 0⟩) [] [] spc = (4, 5, 4096) := by unfold checkD; rw [if_pos (by rw [List.length_replicate]; omega)]
theorem chkOk : checkD [] [] [] [] spc = (0, 0, 0) := by decide +kernel
theorem chkNo : checkD [] [] [] [] [] = (20, 3, 0) := by decide +kernel
theorem fq0_0_0 : ∀ W, (binOp BinOp.eql 26 (.agg #[.int .i64 0, .int .i64 0, .int .i64 0]) (.agg #[.int .i64 0, .int .i64 0, .int .i64 0])).run Tryd.prog W = .ok (.bool true) W := fun W => by kernel_rfl
theorem fq4_4_0 : ∀ W, (binOp BinOp.eql 26 (.agg #[.int .i64 4, .int .i64 4, .int .i64 0]) (.agg #[.int .i64 4, .int .i64 4, .int .i64 0])).run Tryd.prog W = .ok (.bool true) W := fun W => by kernel_rfl
theorem fq4_5_4096 : ∀ W, (binOp BinOp.eql 26 (.agg #[.int .i64 4, .int .i64 5, .int .i64 4096]) (.agg #[.int .i64 4, .int .i64 5, .int .i64 4096])).run Tryd.prog W = .ok (.bool true) W := fun W => by kernel_rfl
theorem fq20_3_0 : ∀ W, (binOp BinOp.eql 26 (.agg #[.int .i64 20, .int .i64 3, .int .i64 0]) (.agg #[.int .i64 20, .int .i64 3, .int .i64 0])).run Tryd.prog W = .ok (.bool true) W := fun W => by kernel_rfl
theorem fq21_4_0 : ∀ W, (binOp BinOp.eql 26 (.agg #[.int .i64 21, .int .i64 4, .int .i64 0]) (.agg #[.int .i64 21, .int .i64 4, .int .i64 0])).run Tryd.prog W = .ok (.bool true) W := fun W => by kernel_rfl
theorem fq22_4_1 : ∀ W, (binOp BinOp.eql 26 (.agg #[.int .i64 22, .int .i64 4, .int .i64 1]) (.agg #[.int .i64 22, .int .i64 4, .int .i64 1])).run Tryd.prog W = .ok (.bool true) W := fun W => by kernel_rfl
theorem fq23_5_0 : ∀ W, (binOp BinOp.eql 26 (.agg #[.int .i64 23, .int .i64 5, .int .i64 0]) (.agg #[.int .i64 23, .int .i64 5, .int .i64 0])).run Tryd.prog W = .ok (.bool true) W := fun W => by kernel_rfl
theorem fq24_5_0 : ∀ W, (binOp BinOp.eql 26 (.agg #[.int .i64 24, .int .i64 5, .int .i64 0]) (.agg #[.int .i64 24, .int .i64 5, .int .i64 0])).run Tryd.prog W = .ok (.bool true) W := fun W => by kernel_rfl
theorem fq25_5_0 : ∀ W, (binOp BinOp.eql 26 (.agg #[.int .i64 25, .int .i64 5, .int .i64 0]) (.agg #[.int .i64 25, .int .i64 5, .int .i64 0])).run Tryd.prog W = .ok (.bool true) W := fun W => by kernel_rfl
theorem fn20 : ∀ W, (binOp BinOp.neq 26 (.agg #[.int .i64 20, .int .i64 3, .int .i64 0]) (.agg #[.int .i64 20, .int .i64 3, .int .i64 0])).run Tryd.prog W = .ok (.bool false) W := fun W => by kernel_rfl
set_option maxRecDepth 100000 in
set_option maxHeartbeats 4000000 in
theorem numbers_walk (w : World) (hG : GL w) :
    Calls Tryd.prog 3 #[] w fun e w' => e = .returned (.bool true) ∧ Below w.heap.size w w' := by
  have q0_0_0 := fq0_0_0
  have q4_4_0 := fq4_4_0
  have q4_5_4096 := fq4_5_4096
  have q20_3_0 := fq20_3_0
  have q21_4_0 := fq21_4_0
  have q22_4_1 := fq22_4_1
  have q23_5_0 := fq23_5_0
  have q24_5_0 := fq24_5_0
  have q25_5_0 := fq25_5_0
  have qn20 := fn20
  have qn0 := fEq_zero
  obtain ⟨Z, hZ⟩ : ∃ Z : Array Value, Z = madeCells (Value.int .u8 0).cells (257 * 1) := ⟨_, rfl⟩
  obtain ⟨LW, hLW⟩ : ∃ LW, LW = longW := ⟨_, rfl⟩
  obtain ⟨MZ, hMZ⟩ : ∃ MZ : List Mg, MZ = List.replicate 4097 ⟨0, 0, 0⟩ := ⟨_, rfl⟩
  obtain ⟨MA, hMA⟩ : ∃ MA, MA = (cellsM MZ).toArray := ⟨_, rfl⟩
  have hmk : ∀ u : World, (Instr.makeSlice 22 (.int .i64 257) (.int .i64 257)).run Tryd.prog u = .ok (.slice (some ⟨u.heap.size, 0, none⟩) 257 257) (u.alloc (.cells Z 5)) := fun u => by
    obtain ⟨i0, hi, hz0, hz1, hz2⟩ := info_parts infoB
    have h := run_make (P := Tryd.prog) u 22 5 i0 _ Tryd.underlying22 hi hz0 .i64 .i64 257 257 (by omega) (Int.le_refl _) (by rw [hz2]; decide) (by omega)
    rw [hz1] at h
    rw [hZ]
    exact h
  have hcv : ∀ u : World, (convert 22 9 (.slice (some ⟨u.heap.size, 0, none⟩) 257 257)).run Tryd.prog (u.alloc (.cells Z 5)) = .ok (.string LW) (u.alloc (.cells Z 5)) := fun u => by
    have h := run_convert_bytes_arg (P := Tryd.prog) (u.alloc (.cells Z 5)) 22 5 Tryd.underlying22 Tryd.underlying5 u.heap.size 0 257 257 (List.replicate 257 0) (List.length_replicate ..) (fun j hj => by
      rw [cell_of_block (heap_alloc_new _ _), hZ, Nat.zero_add, made_u8 _ _ hj, zero_get]) 9 Tryd.underlying9
    rw [h, hLW]
    rfl
  have hmk2 : ∀ u : World, (Instr.makeSlice 39 (.int .i64 4097) (.int .i64 4097)).run Tryd.prog u = .ok (.slice (some ⟨u.heap.size, 0, none⟩) 4097 4097) (u.alloc (.cells MA 36)) := fun u => by
    obtain ⟨i0, hi, hz0, hz1, hz2⟩ := info_parts infoM
    have h := run_make (P := Tryd.prog) u 39 36 i0 _ Tryd.underlying39 hi hz0 .i64 .i64 4097 4097 (by omega) (Int.le_refl _) (by rw [hz2]; decide) (by omega)
    rw [hz1] at h
    rw [hMA, hMZ, ← madeMg]
    exact h
  have HLW : Hid (LW = longW) := hLW
  have HMZ : Hid (MZ = List.replicate 4097 ⟨0, 0, 0⟩) := hMZ
  have HMA : Hid (MA = (cellsM MZ).toArray) := hMA
  clear hZ hLW hMZ hMA
  have H0 := fun (wx : World) (g : Nat) (hs : wx.heap.size = g) hg => bare_any none none (some ⟨g, 0, none⟩) 0 0 1 [] [] spc (wx.alloc (.cells #[.int .i32 32, .int .i32 32] 30)) (lstNil _) (lstNil _) (lstSpc hs) hg 0 0 0 chkOk
  have H1 := fun (wx : World) hg => bare_any none none none 0 0 0 [] [] [] wx (lstNil _) (lstNil _) (lstNil _) hg 20 3 0 chkNo
  simp only [List.length_nil] at H0 H1
  rw [show spc.length = 1 from rfl] at H0
  have HQ : Hid True := trivial
  go_enter Tryd.func3, Tryd.ntmps3
  go_wp2_with fail
  obtain ⟨W0, hW0⟩ : ∃ W0, W0 = w.alloc (.cells Z 5) := ⟨_, rfl⟩
  have B0 : Below w.heap.size w W0 := by rw [hW0]; exact box_below _ _
  have e0 : W0.heap.size = w.heap.size + 1 := by rw [hW0]; simp
  rw [← hW0]
  clear hW0 hmk hcv
  have bs := box_below W0 (.cells #[.int .i32 32, .int .i32 32] 30)
  have B0' := B0.trans (bs.mono B0.size)
  refine (H0 W0 _ e0 (hG.below B0')).mono ?_
  rintro e w1 ⟨p, rfl, hp, -, hb1⟩
  obtain ⟨g, rfl, hMd⟩ := hp trivial
  have B1 := B0'.trans (hb1.mono B0'.size)
  have bn := box_below w1 (.cells #[.int .i64 0, .int .i64 0, .int .i64 0] 26)
  have hMd1 := hMd.below bn
  have hF := Blk.new w1 (.cells #[.int .i64 0, .int .i64 0, .int .i64 0] 26)
  have B2 := B1.trans (bn.mono B1.size)
  have f0 := hF.cell 0
  have f1 := hF.cell 1
  have f2 := hF.cell 2
  clear H0 bs B0 B0' e0 hb1 hp hMd B1 bn
  go_wp2_with fail
  obtain ⟨U1, hU1⟩ : ∃ U1, U1 = w1.alloc (.cells #[.int .i64 0, .int .i64 0, .int .i64 0] 26) := ⟨_, rfl⟩
  rw [← hU1] at hMd1 B2 ⊢
  clear hU1 f0 f1 f2 hF
  have HMd1 : Hid (ModelAt U1 _ g [] [] [] [] spc) := hMd1
  refine (msize_any g _ [] [] [] [] spc U1 (by simp) HMd1.out).mono ?_
  rintro e _ ⟨rfl, rfl⟩
  go_wp2_with fail
  refine (mlongest_any g _ [] [] [] [] spc _ HMd1.out).mono ?_
  rintro e _ ⟨rfl, rfl⟩
  rw [show ((longM [] : Nat) : Int) = 1 from rfl]
  clear hMd1
  go_wp2_with fail
  refine (mword_any g _ [] [] [] [] spc 256 _ (by simp) HMd1.out).mono ?_
  rw [show wdV (wordM [] 256) = .tuple #[.string ⟨#[]⟩, .bool false] by rfl]
  rintro e w2 ⟨rfl, hb2⟩
  have HMd2 : Hid (ModelAt w2 _ g [] [] [] [] spc) := HMd1.out.below hb2
  have B3 := B2.trans (hb2.mono B2.size)
  clear hb2 B2 HMd1
  go_wp2_with fail
  refine (mword_any g _ [] [] [] [] spc (-1) _ (by simp) HMd2.out).mono ?_
  rw [show wdV (wordM [] (-1)) = .tuple #[.string ⟨#[]⟩, .bool false] by rfl]
  rintro e w3 ⟨rfl, hb3⟩
  have B4 := B3.trans (hb3.mono B3.size)
  clear hb3 B3 HMd2
  go_wp2_with fail
  refine (H1 w3 (hG.below B4)).mono ?_
  rintro e w4 ⟨p, rfl, -, hp, hb4⟩
  obtain rfl := hp (by decide)
  have B5 := B4.trans (hb4.mono B4.size)
  have bn := box_below w4 (.cells #[.int .i64 20, .int .i64 3, .int .i64 0] 26)
  have hF := Blk.new w4 (.cells #[.int .i64 20, .int .i64 3, .int .i64 0] 26)
  have B6 := B5.trans (bn.mono B5.size)
  have f0 := hF.cell 0
  have f1 := hF.cell 1
  have f2 := hF.cell 2
  clear hb4 B4 B5 hp bn H1
  rw [show ((20 : Nat) : Int) = 20 from rfl, show ((3 : Nat) : Int) = 3 from rfl, show ((0 : Nat) : Int) = 0 from rfl]
  go_wp2_with fail
  obtain ⟨U4, hU4⟩ : ∃ U4, U4 = w4.alloc (.cells #[.int .i64 20, .int .i64 3, .int .i64 0] 26) := ⟨_, rfl⟩
  have e4 : U4.heap.size = w4.heap.size + 1 := by rw [hU4]; simp
  rw [← hU4] at B6 ⊢
  clear hU4 f0 f1 f2 hF
  obtain ⟨z, hz⟩ : ∃ z, z = w4.heap.size := ⟨_, rfl⟩
  rw [← hz] at e4 ⊢
  clear hz
  have ba := box_below U4 (.cells #[.int .i64 97, .int .i64 98, .int .i64 256] 36)
  have hA := Blk.new U4 (.cells #[.int .i64 97, .int .i64 98, .int .i64 256] 36)
  obtain ⟨U5, hU5⟩ : ∃ U5, U5 = U4.alloc (.cells #[.int .i64 97, .int .i64 98, .int .i64 256] 36) := ⟨_, rfl⟩
  have e5 : U5.heap.size = z + 1 + 1 := by rw [hU5]; simp; omega
  rw [← hU5] at ba hA ⊢
  have bb := box_below U5 (.cells #[.int .i64 256, .int .i64 99, .int .i64 257] 36)
  have hB := Blk.new U5 (.cells #[.int .i64 256, .int .i64 99, .int .i64 257] 36)
  have hA6 := hA.up bb
  have B7 := (B6.trans (ba.mono B6.size)).trans (bb.mono (Nat.le_trans B6.size ba.size))
  obtain ⟨V, hV⟩ : ∃ V, V = U5.alloc (.cells #[.int .i64 256, .int .i64 99, .int .i64 257] 36) := ⟨_, rfl⟩
  have eV : V.heap.size = z + 1 + 1 + 1 := by rw [hV]; simp; omega
  rw [← hV] at bb hB hA6 B7 ⊢
  rw [e4] at hA6
  rw [e5] at hB
  clear hU5 hV ba hA bb B6 e4 e5
  have b1 := box_below V (.cells #[.string ⟨#[97, 98]⟩, .string ⟨#[97, 98, 99]⟩] 9)
  have b2 := box_below (V.alloc (.cells #[.string ⟨#[97, 98]⟩, .string ⟨#[97, 98, 99]⟩] 9)) (.cells #[.int .i64 97, .int .i64 98, .int .i64 256, .int .i64 256, .int .i64 99, .int .i64 257] 36)
  have e1 : (V.alloc (.cells #[.string ⟨#[97, 98]⟩, .string ⟨#[97, 98, 99]⟩] 9)).heap.size = z + 1 + 1 + 1 + 1 := by rw [World.size_alloc, eV]
  have hw := (WSP.at_new (l := [⟨#[97, 98]⟩, ⟨#[97, 98, 99]⟩]) (t := 9) eV).below b2
  have hm := MSP.at_new (l := [⟨97, 98, 256⟩, ⟨256, 99, 257⟩]) (t := 36) e1
  have BB := (B7.trans (b1.mono B7.size)).trans (b2.mono (Nat.le_trans B7.size b1.size))
  have HF := fault_any (some ⟨z + 1 + 1 + 1, 0, none⟩) (some ⟨z + 1 + 1 + 1 + 1, 0, none⟩) 2 2 [⟨#[97, 98]⟩, ⟨#[97, 98, 99]⟩] [⟨97, 98, 256⟩, ⟨256, 99, 257⟩] ((V.alloc (.cells #[.string ⟨#[97, 98]⟩, .string ⟨#[97, 98, 99]⟩] 9)).alloc (.cells #[.int .i64 97, .int .i64 98, .int .i64 256, .int .i64 256, .int .i64 99, .int .i64 257] 36)) (mwf_mem (by unfold W64; decide)) (by simp) hw hm (hG.below BB) 0 0 0 chk0
  refine HF.mono ?_
  rintro e v0 ⟨rfl, hbw⟩
  have B8 := BB.trans (hbw.mono BB.size)
  have hA7 := ((hA6.up b1).up b2).up hbw
  have hB7 := ((hB.up b1).up b2).up hbw
  clear HF hw hm BB hbw b1 B7 hA6 hB b2 e1 eV
  have hA6 := hA7
  have hB := hB7
  clear hA7 hB7
  rw [show ((0 : Nat) : Int) = 0 from rfl]
  have a0 := cell_alloc_s (hA6.cell 0)
  have a1 := cell_alloc_s (hA6.cell 1)
  have a2 := cell_alloc_s (hA6.cell 2)
  have c0 := cell_alloc_s (hB.cell 0)
  have c1 := cell_alloc_s (hB.cell 1)
  have c2 := cell_alloc_s (hB.cell 2)
  go_wp2_with fail
  clear a0 a1 a2 c0 c1 c2
  have b1 := box_below v0 (.cells #[.string ⟨#[97, 98]⟩, .string ⟨#[97, 98, 99]⟩] 9)
  have b2 := box_below (v0.alloc (.cells #[.string ⟨#[97, 98]⟩, .string ⟨#[97, 98, 99]⟩] 9)) (.cells #[.int .i64 256, .int .i64 99, .int .i64 257, .int .i64 97, .int .i64 98, .int .i64 256] 36)
  have e1 : (v0.alloc (.cells #[.string ⟨#[97, 98]⟩, .string ⟨#[97, 98, 99]⟩] 9)).heap.size = v0.heap.size + 1 := by rw [World.size_alloc, (rfl : v0.heap.size = v0.heap.size)]
  have hw := (WSP.at_new (l := [⟨#[97, 98]⟩, ⟨#[97, 98, 99]⟩]) (t := 9) (rfl : v0.heap.size = v0.heap.size)).below b2
  have hm := MSP.at_new (l := [⟨256, 99, 257⟩, ⟨97, 98, 256⟩]) (t := 36) e1
  have BB := (B8.trans (b1.mono B8.size)).trans (b2.mono (Nat.le_trans B8.size b1.size))
  have HF := fault_any (some ⟨v0.heap.size, 0, none⟩) (some ⟨v0.heap.size + 1, 0, none⟩) 2 2 [⟨#[97, 98]⟩, ⟨#[97, 98, 99]⟩] [⟨256, 99, 257⟩, ⟨97, 98, 256⟩] ((v0.alloc (.cells #[.string ⟨#[97, 98]⟩, .string ⟨#[97, 98, 99]⟩] 9)).alloc (.cells #[.int .i64 256, .int .i64 99, .int .i64 257, .int .i64 97, .int .i64 98, .int .i64 256] 36)) (mwf_mem (by unfold W64; decide)) (by simp) hw hm (hG.below BB) 23 5 0 chk1
  refine HF.mono ?_
  rintro e v1 ⟨rfl, hbw⟩
  have B9 := BB.trans (hbw.mono BB.size)
  have hA7 := ((hA6.up b1).up b2).up hbw
  have hB7 := ((hB.up b1).up b2).up hbw
  clear HF hw hm BB hbw b1 B8 hA6 hB b2 e1 
  have hA6 := hA7
  have hB := hB7
  clear hA7 hB7
  rw [show ((0 : Nat) : Int) = 0 from rfl, show ((5 : Nat) : Int) = 5 from rfl, show ((23 : Nat) : Int) = 23 from rfl]
  have a0 := cell_alloc_s (hA6.cell 0)
  have a1 := cell_alloc_s (hA6.cell 1)
  have a2 := cell_alloc_s (hA6.cell 2)
  have c0 := cell_alloc_s (hB.cell 0)
  have c1 := cell_alloc_s (hB.cell 1)
  have c2 := cell_alloc_s (hB.cell 2)
  go_wp2_with fail
  clear a0 a1 a2 c0 c1 c2
  have b1 := box_below v1 (.cells #[.string ⟨#[97, 98]⟩] 9)
  have b2 := box_below (v1.alloc (.cells #[.string ⟨#[97, 98]⟩] 9)) (.cells #[.int .i64 97, .int .i64 99, .int .i64 256] 36)
  have e1 : (v1.alloc (.cells #[.string ⟨#[97, 98]⟩] 9)).heap.size = v1.heap.size + 1 := by rw [World.size_alloc, (rfl : v1.heap.size = v1.heap.size)]
  have hw := (WSP.at_new (l := [⟨#[97, 98]⟩]) (t := 9) (rfl : v1.heap.size = v1.heap.size)).below b2
  have hm := MSP.at_new (l := [⟨97, 99, 256⟩]) (t := 36) e1
  have BB := (B9.trans (b1.mono B9.size)).trans (b2.mono (Nat.le_trans B9.size b1.size))
  have HF := fault_any (some ⟨v1.heap.size, 0, none⟩) (some ⟨v1.heap.size + 1, 0, none⟩) 1 1 [⟨#[97, 98]⟩] [⟨97, 99, 256⟩] ((v1.alloc (.cells #[.string ⟨#[97, 98]⟩] 9)).alloc (.cells #[.int .i64 97, .int .i64 99, .int .i64 256] 36)) (mwf_mem (by unfold W64; decide)) (by simp) hw hm (hG.below BB) 25 5 0 chk2
  refine HF.mono ?_
  rintro e v2 ⟨rfl, hbw⟩
  have B10 := BB.trans (hbw.mono BB.size)
  have hA7 := ((hA6.up b1).up b2).up hbw
  have hB7 := ((hB.up b1).up b2).up hbw
  clear HF hw hm BB hbw b1 B9 hA6 hB b2 e1 
  have hA6 := hA7
  have hB := hB7
  clear hA7 hB7
  rw [show ((0 : Nat) : Int) = 0 from rfl, show ((5 : Nat) : Int) = 5 from rfl, show ((25 : Nat) : Int) = 25 from rfl]
  have a0 := cell_alloc_s (hA6.cell 0)
  have a1 := cell_alloc_s (hA6.cell 1)
  have a2 := cell_alloc_s (hA6.cell 2)
  have c0 := cell_alloc_s (hB.cell 0)
  have c1 := cell_alloc_s (hB.cell 1)
  have c2 := cell_alloc_s (hB.cell 2)
  go_wp2_with fail
  clear a0 a1 a2 c0 c1 c2
  have b1 := box_below v2 (.cells #[.string ⟨#[97, 98]⟩] 9)
  have b2 := box_below (v2.alloc (.cells #[.string ⟨#[97, 98]⟩] 9)) (.cells #[.int .i64 97, .int .i64 98, .int .i64 257] 36)
  have e1 : (v2.alloc (.cells #[.string ⟨#[97, 98]⟩] 9)).heap.size = v2.heap.size + 1 := by rw [World.size_alloc, (rfl : v2.heap.size = v2.heap.size)]
  have hw := (WSP.at_new (l := [⟨#[97, 98]⟩]) (t := 9) (rfl : v2.heap.size = v2.heap.size)).below b2
  have hm := MSP.at_new (l := [⟨97, 98, 257⟩]) (t := 36) e1
  have BB := (B10.trans (b1.mono B10.size)).trans (b2.mono (Nat.le_trans B10.size b1.size))
  have HF := fault_any (some ⟨v2.heap.size, 0, none⟩) (some ⟨v2.heap.size + 1, 0, none⟩) 1 1 [⟨#[97, 98]⟩] [⟨97, 98, 257⟩] ((v2.alloc (.cells #[.string ⟨#[97, 98]⟩] 9)).alloc (.cells #[.int .i64 97, .int .i64 98, .int .i64 257] 36)) (mwf_mem (by unfold W64; decide)) (by simp) hw hm (hG.below BB) 24 5 0 chk3
  refine HF.mono ?_
  rintro e v3 ⟨rfl, hbw⟩
  have B11 := BB.trans (hbw.mono BB.size)
  have hA7 := ((hA6.up b1).up b2).up hbw
  have hB7 := ((hB.up b1).up b2).up hbw
  clear HF hw hm BB hbw b1 B10 hA6 hB b2 e1 
  have hA6 := hA7
  have hB := hB7
  clear hA7 hB7
  rw [show ((0 : Nat) : Int) = 0 from rfl, show ((5 : Nat) : Int) = 5 from rfl, show ((24 : Nat) : Int) = 24 from rfl]
  have a0 := cell_alloc_s (hA6.cell 0)
  have a1 := cell_alloc_s (hA6.cell 1)
  have a2 := cell_alloc_s (hA6.cell 2)
  have c0 := cell_alloc_s (hB.cell 0)
  have c1 := cell_alloc_s (hB.cell 1)
  have c2 := cell_alloc_s (hB.cell 2)
  go_wp2_with fail
  clear a0 a1 a2 c0 c1 c2
  have b1 := box_below v3 (.cells #[.string ⟨#[97, 98]⟩] 9)
  have b2 := box_below (v3.alloc (.cells #[.string ⟨#[97, 98]⟩] 9)) (.cells #[.int .i64 97, .int .i64 98, .int .i64 97] 36)
  have e1 : (v3.alloc (.cells #[.string ⟨#[97, 98]⟩] 9)).heap.size = v3.heap.size + 1 := by rw [World.size_alloc, (rfl : v3.heap.size = v3.heap.size)]
  have hw := (WSP.at_new (l := [⟨#[97, 98]⟩]) (t := 9) (rfl : v3.heap.size = v3.heap.size)).below b2
  have hm := MSP.at_new (l := [⟨97, 98, 97⟩]) (t := 36) e1
  have BB := (B11.trans (b1.mono B11.size)).trans (b2.mono (Nat.le_trans B11.size b1.size))
  have HF := fault_any (some ⟨v3.heap.size, 0, none⟩) (some ⟨v3.heap.size + 1, 0, none⟩) 1 1 [⟨#[97, 98]⟩] [⟨97, 98, 97⟩] ((v3.alloc (.cells #[.string ⟨#[97, 98]⟩] 9)).alloc (.cells #[.int .i64 97, .int .i64 98, .int .i64 97] 36)) (mwf_mem (by unfold W64; decide)) (by simp) hw hm (hG.below BB) 24 5 0 chk4
  refine HF.mono ?_
  rintro e v4 ⟨rfl, hbw⟩
  have B12 := BB.trans (hbw.mono BB.size)
  have hA7 := ((hA6.up b1).up b2).up hbw
  have hB7 := ((hB.up b1).up b2).up hbw
  clear HF hw hm BB hbw b1 B11 hA6 hB b2 e1 
  have hA6 := hA7
  have hB := hB7
  clear hA7 hB7
  rw [show ((0 : Nat) : Int) = 0 from rfl, show ((5 : Nat) : Int) = 5 from rfl, show ((24 : Nat) : Int) = 24 from rfl]
  have a0 := cell_alloc_s (hA6.cell 0)
  have a1 := cell_alloc_s (hA6.cell 1)
  have a2 := cell_alloc_s (hA6.cell 2)
  have c0 := cell_alloc_s (hB.cell 0)
  have c1 := cell_alloc_s (hB.cell 1)
  have c2 := cell_alloc_s (hB.cell 2)
  go_wp2_with fail
  clear a0 a1 a2 c0 c1 c2
  have b1 := box_below v4 (.cells #[.string ⟨#[97, 98]⟩, .string ⟨#[97, 98]⟩] 9)
  have b2 := box_below (v4.alloc (.cells #[.string ⟨#[97, 98]⟩, .string ⟨#[97, 98]⟩] 9)) (.cells #[.int .i64 97, .int .i64 98, .int .i64 256, .int .i64 97, .int .i64 98, .int .i64 256] 36)
  have e1 : (v4.alloc (.cells #[.string ⟨#[97, 98]⟩, .string ⟨#[97, 98]⟩] 9)).heap.size = v4.heap.size + 1 := by rw [World.size_alloc, (rfl : v4.heap.size = v4.heap.size)]
  have hw := (WSP.at_new (l := [⟨#[97, 98]⟩, ⟨#[97, 98]⟩]) (t := 9) (rfl : v4.heap.size = v4.heap.size)).below b2
  have hm := MSP.at_new (l := [⟨97, 98, 256⟩, ⟨97, 98, 256⟩]) (t := 36) e1
  have BB := (B12.trans (b1.mono B12.size)).trans (b2.mono (Nat.le_trans B12.size b1.size))
  have HF := fault_any (some ⟨v4.heap.size, 0, none⟩) (some ⟨v4.heap.size + 1, 0, none⟩) 2 2 [⟨#[97, 98]⟩, ⟨#[97, 98]⟩] [⟨97, 98, 256⟩, ⟨97, 98, 256⟩] ((v4.alloc (.cells #[.string ⟨#[97, 98]⟩, .string ⟨#[97, 98]⟩] 9)).alloc (.cells #[.int .i64 97, .int .i64 98, .int .i64 256, .int .i64 97, .int .i64 98, .int .i64 256] 36)) (mwf_mem (by unfold W64; decide)) (by simp) hw hm (hG.below BB) 22 4 1 chk5
  refine HF.mono ?_
  rintro e v5 ⟨rfl, hbw⟩
  have B13 := BB.trans (hbw.mono BB.size)
  have hA7 := ((hA6.up b1).up b2).up hbw
  have hB7 := ((hB.up b1).up b2).up hbw
  clear HF hw hm BB hbw b1 B12 hA6 hB b2 e1 
  have hA6 := hA7
  have hB := hB7
  clear hA7 hB7
  rw [show ((1 : Nat) : Int) = 1 from rfl, show ((4 : Nat) : Int) = 4 from rfl, show ((22 : Nat) : Int) = 22 from rfl]
  have a0 := cell_alloc_s (hA6.cell 0)
  have a1 := cell_alloc_s (hA6.cell 1)
  have a2 := cell_alloc_s (hA6.cell 2)
  have c0 := cell_alloc_s (hB.cell 0)
  have c1 := cell_alloc_s (hB.cell 1)
  have c2 := cell_alloc_s (hB.cell 2)
  go_wp2_with fail
  clear a0 a1 a2 c0 c1 c2
  have b1 := box_below v5 (.cells #[.string ⟨#[97]⟩] 9)
  have b2 := box_below (v5.alloc (.cells #[.string ⟨#[97]⟩] 9)) (.cells #[.int .i64 97, .int .i64 98, .int .i64 256] 36)
  have e1 : (v5.alloc (.cells #[.string ⟨#[97]⟩] 9)).heap.size = v5.heap.size + 1 := by rw [World.size_alloc, (rfl : v5.heap.size = v5.heap.size)]
  have hw := (WSP.at_new (l := [⟨#[97]⟩]) (t := 9) (rfl : v5.heap.size = v5.heap.size)).below b2
  have hm := MSP.at_new (l := [⟨97, 98, 256⟩]) (t := 36) e1
  have BB := (B13.trans (b1.mono B13.size)).trans (b2.mono (Nat.le_trans B13.size b1.size))
  have HF := fault_any (some ⟨v5.heap.size, 0, none⟩) (some ⟨v5.heap.size + 1, 0, none⟩) 1 1 [⟨#[97]⟩] [⟨97, 98, 256⟩] ((v5.alloc (.cells #[.string ⟨#[97]⟩] 9)).alloc (.cells #[.int .i64 97, .int .i64 98, .int .i64 256] 36)) (mwf_mem (by unfold W64; decide)) (by simp) hw hm (hG.below BB) 21 4 0 chk6
  refine HF.mono ?_
  rintro e v6 ⟨rfl, hbw⟩
  have B14 := BB.trans (hbw.mono BB.size)
  have hA7 := ((hA6.up b1).up b2).up hbw
  have hB7 := ((hB.up b1).up b2).up hbw
  clear HF hw hm BB hbw b1 B13 hA6 hB b2 e1 
  have hA6 := hA7
  have hB := hB7
  clear hA7 hB7
  rw [show ((0 : Nat) : Int) = 0 from rfl, show ((4 : Nat) : Int) = 4 from rfl, show ((21 : Nat) : Int) = 21 from rfl]
  have a0 := cell_alloc_s (hA6.cell 0)
  have a1 := cell_alloc_s (hA6.cell 1)
  have a2 := cell_alloc_s (hA6.cell 2)
  have c0 := cell_alloc_s (hB.cell 0)
  have c1 := cell_alloc_s (hB.cell 1)
  have c2 := cell_alloc_s (hB.cell 2)
  go_wp2_with fail
  clear a0 a1 a2 c0 c1 c2
  have b1 := box_below v6 (.cells #[.string LW] 9)
  have b2 := box_below (v6.alloc (.cells #[.string LW] 9)) (.cells #[.int .i64 97, .int .i64 98, .int .i64 256] 36)
  have e1 : (v6.alloc (.cells #[.string LW] 9)).heap.size = v6.heap.size + 1 := by rw [World.size_alloc, (rfl : v6.heap.size = v6.heap.size)]
  have hw := (WSP.at_new (l := [LW]) (t := 9) (rfl : v6.heap.size = v6.heap.size)).below b2
  have hm := MSP.at_new (l := [⟨97, 98, 256⟩]) (t := 36) e1
  have BB := (B14.trans (b1.mono B14.size)).trans (b2.mono (Nat.le_trans B14.size b1.size))
  have HF := fault_any (some ⟨v6.heap.size, 0, none⟩) (some ⟨v6.heap.size + 1, 0, none⟩) 1 1 [LW] [⟨97, 98, 256⟩] ((v6.alloc (.cells #[.string LW] 9)).alloc (.cells #[.int .i64 97, .int .i64 98, .int .i64 256] 36)) (mwf_mem (by unfold W64; decide)) (by simp) hw hm (hG.below BB) 21 4 0 (by rw [HLW.out]; exact chk7)
  refine HF.mono ?_
  rintro e v7 ⟨rfl, hbw⟩
  have B15 := BB.trans (hbw.mono BB.size)
  have hA7 := ((hA6.up b1).up b2).up hbw
  have hB7 := ((hB.up b1).up b2).up hbw
  clear HF hw hm BB hbw b1 B14 hA6 hB b2 e1 
  have hA6 := hA7
  have hB := hB7
  clear hA7 hB7
  rw [show ((0 : Nat) : Int) = 0 from rfl, show ((4 : Nat) : Int) = 4 from rfl, show ((21 : Nat) : Int) = 21 from rfl]
  have a0 := cell_alloc_s (hA6.cell 0)
  have a1 := cell_alloc_s (hA6.cell 1)
  have a2 := cell_alloc_s (hA6.cell 2)
  have c0 := cell_alloc_s (hB.cell 0)
  have c1 := cell_alloc_s (hB.cell 1)
  have c2 := cell_alloc_s (hB.cell 2)
  go_wp2_with fail
  clear a0 a1 a2 c0 c1 c2
  have b1 := box_below v7 (.cells #[.string ⟨#[97, 98]⟩] 9)
  have hw := WSP.at_new (l := [⟨#[97, 98]⟩]) (t := 9) (rfl : v7.heap.size = v7.heap.size)
  have hm : MSP (v7.alloc (.cells #[.string ⟨#[97, 98]⟩] 9)) none [] := .inl rfl
  have BB := B15.trans (b1.mono B15.size)
  have HF := fault_any (some ⟨v7.heap.size, 0, none⟩) none 1 0 [⟨#[97, 98]⟩] [] (v7.alloc (.cells #[.string ⟨#[97, 98]⟩] 9)) (mwf_mem (by unfold W64; decide)) (by simp) hw hm (hG.below BB) 4 4 0 chk8
  refine HF.mono ?_
  rintro e v8 ⟨rfl, hbw⟩
  have B16 := BB.trans (hbw.mono BB.size)
  have hA7 := (hA6.up b1).up hbw
  have hB7 := (hB.up b1).up hbw
  clear HF hw hm BB hbw b1 B15 hA6 hB  
  have hA6 := hA7
  have hB := hB7
  clear hA7 hB7
  rw [show ((0 : Nat) : Int) = 0 from rfl, show ((4 : Nat) : Int) = 4 from rfl]
  have a0 := cell_alloc_s (hA6.cell 0)
  have a1 := cell_alloc_s (hA6.cell 1)
  have a2 := cell_alloc_s (hA6.cell 2)
  have c0 := cell_alloc_s (hB.cell 0)
  have c1 := cell_alloc_s (hB.cell 1)
  have c2 := cell_alloc_s (hB.cell 2)
  go_wp2_with fail
  clear a0 a1 a2 c0 c1 c2
  have b1 := box_below v8 (.cells MA 36)
  have hw : WSP (v8.alloc (.cells MA 36)) none [] := .inl rfl
  have hm : MSP (v8.alloc (.cells MA 36)) (some ⟨v8.heap.size, 0, none⟩) MZ := by rw [HMA.out]; exact MSP.at_new (l := MZ) (t := 36) (rfl : v8.heap.size = v8.heap.size)
  have BB := B16.trans (b1.mono B16.size)
  have HF := fault_any none (some ⟨v8.heap.size, 0, none⟩) 0 4097 [] MZ (v8.alloc (.cells MA 36)) (mwf_mem (by rw [HMZ.out]; intro x hx; rw [List.eq_of_mem_replicate hx]; unfold W64; decide)) (by simp) hw hm (hG.below BB) 4 5 4096 (by rw [HMZ.out]; exact chk9)
  rw [show MZ.length = 4097 by rw [HMZ.out]; exact List.length_replicate ..] at HF
  refine HF.mono ?_
  rintro e v9 ⟨rfl, hbw⟩
  have B17 := BB.trans (hbw.mono BB.size)
  have hA7 := (hA6.up b1).up hbw
  have hB7 := (hB.up b1).up hbw
  clear HF hw hm BB hbw b1 B16 hA6 hB  
  have hA6 := hA7
  have hB := hB7
  clear hA7 hB7
  rw [show ((4 : Nat) : Int) = 4 from rfl, show ((5 : Nat) : Int) = 5 from rfl, show ((4096 : Nat) : Int) = 4096 from rfl]
  go_wp2_with fail
  refine (known_any v9 (hG.below B17)).mono ?_
  rintro e wl ⟨rfl, hbw⟩
  go_wp2_with fail
  go_ret
  exact ⟨rfl, B17.trans (hbw.mono B17.size)⟩
end Go.Proofs.YtlnebbciefdpoaaDoor
