import Derived.Test.YtonbfcpbgkpbaabDoorJ15
import Derived.Test.YtonbfcpbgkpbaabDoorJ7
import Derived.Test.YtonbfcpbgkpbaabDoorRows
section
/- RecipeTurned: the walk. -/
namespace Go.Proofs.YtonbfcpbgkpbaabDoor
open Go.RowKit Go.Sort Go.Joins
set_option linter.unusedVariables false
set_option linter.unusedSimpArgs false
set_option maxRecDepth 100000
theorem lnT_len {l : List Sp} {nm : List UInt8} (hn : nm.length ≤ 8) (h : l.all spOk = true) (hl : l.length ≤ 1048576) : (lnT [10] (clsT nm l)).length ≤ 28311600 := by
  obtain ⟨h1, h2⟩ := cls_len hn h
  have h3 := jn_len _ _ h1 (clsT nm l).length
  unfold lnT
  rw [List.length_append]
  show _ + 1 ≤ _
  omega
theorem print_len {ws : List ByteArray} {ms : List Mg} {A B C : List Sp} (hZ : PrZ ws ms A B C) : (printF ws ms A B C).1.length ≤ 2000000000 := by
  unfold printF
  split
  · split
    · rename_i _ h2
      simp only [runesOk, Bool.and_eq_true] at h2
      show (textF [10] (linesF ws ms A B C)).length ≤ _
      rw [text_all, List.length_append, List.length_append, List.length_append]
      have h3 := accF_len hZ.big ms ms.length (Nat.le_refl _)
      have h4 : ms.length * 18874388 ≤ 100 * 18874388 := Nat.mul_le_mul_right _ hZ.m
      have h5 := lnT_len (nm := nmL) (by decide) h2.1.1 hZ.a
      have h6 := lnT_len (nm := nmN) (by decide) h2.1.2 hZ.b
      have h7 := lnT_len (nm := nmS) (by decide) h2.2 hZ.c
      omega
    · show 0 ≤ _
      omega
  · show 0 ≤ _
    omega
/-- Data as a value. -/
abbrev dV (aw am a b c : Option Addr) (nw nm na nb nc cw cm ca cb cc : Nat) : Value := .agg #[.slice aw nw cw, .slice am nm cm, .slice a na ca, .slice b nb cb, .slice c nc cc]
/-- What the last region reads, in whatever world it stands. -/
structure TS (z t1 t2 : Nat) (s0 s1 s2 s4 o2 o4 x0 x2 y1 y4 : Value) (w : World) : Prop where
  z0 : w.cell? ⟨z, 0, none⟩ = some s0
  z1 : w.cell? ⟨z, 1, none⟩ = some s1
  z2 : w.cell? ⟨z, 2, none⟩ = some s2
  z4 : w.cell? ⟨z, 4, none⟩ = some s4
  o2 : w.cell? ⟨z + 1, 2, none⟩ = some o2
  o4 : w.cell? ⟨z + 1, 4, none⟩ = some o4
  x0 : w.cell? ⟨t1, 0, none⟩ = some x0
  x2 : w.cell? ⟨t1, 2, none⟩ = some x2
  y1 : w.cell? ⟨t2, 1, none⟩ = some y1
  y4 : w.cell? ⟨t2, 4, none⟩ = some y4
theorem TS.below {z t1 t2 : Nat} {s0 s1 s2 s4 o2 o4 x0 x2 y1 y4 : Value} {w w' : World} (h : TS z t1 t2 s0 s1 s2 s4 o2 o4 x0 x2 y1 y4 w) (hb : Below w.heap.size w w') : TS z t1 t2 s0 s1 s2 s4 o2 o4 x0 x2 y1 y4 w' :=
  ⟨(hb.cell (World.block_lt_of_cell? w _ h.z0)).trans h.z0, (hb.cell (World.block_lt_of_cell? w _ h.z1)).trans h.z1, (hb.cell (World.block_lt_of_cell? w _ h.z2)).trans h.z2, (hb.cell (World.block_lt_of_cell? w _ h.z4)).trans h.z4, (hb.cell (World.block_lt_of_cell? w _ h.o2)).trans h.o2, (hb.cell (World.block_lt_of_cell? w _ h.o4)).trans h.o4, (hb.cell (World.block_lt_of_cell? w _ h.x0)).trans h.x0, (hb.cell (World.block_lt_of_cell? w _ h.x2)).trans h.x2, (hb.cell (World.block_lt_of_cell? w _ h.y1)).trans h.y1, (hb.cell (World.block_lt_of_cell? w _ h.y4)).trans h.y4⟩
theorem HL_one2 {P : Program} {md : Region.Mode} {ops : Array Oper} {Q : Exit → Act → World → Prop} {S : World → Prop} {n : Nat} {L : Array Bool → Act → World → Prop} {i : Nat} {o : Oper} {f : Nat} {listed : Array Bool} {a : Act} {w : World} (hi : ops[i]? = some o) (hin : i < n) (hr : Region.ready md ops listed = [i]) (hg : Region.wanted o (yielded ops a.tmps) = true)
    (h : o.wp P a w (fun a' w' => S w' ∧ HL P md ops Q S n L f (listed.setIfInBounds i true) a' w') Q) : HL P md ops Q S n L (f + 1) listed a w := by
  refine ⟨by rw [hr]; exact List.cons_ne_nil _ _, fun k hk => ?_⟩
  rw [hr] at hk
  obtain rfl : k = i := by simpa using hk
  refine ⟨hin, ?_⟩
  unfold wpOp
  simp only [hi, hg, if_true]
  exact .inl h
set_option maxHeartbeats 16000000 in
theorem turned_walk (aw am a b c aw' am' a' b' c' : Option Addr) (cw cm ca cb cc cw' cm' ca' cb' cc' : Nat) (ws ws' : List ByteArray) (ms ms' : List Mg) (A B C A' B' C' : List Sp) (w : World) (hD : PrD w aw am a b c ws ms A B C) (hD' : PrD w aw' am' a' b' c' ws' ms' A' B' C') (hW : ws.length ≤ 1048576) (hM : ms.length ≤ 1048576) (hbig : ∀ x ∈ ws, x.size ≤ 1048576) (hA : A.length ≤ 1048576) (hB : B.length ≤ 1048576) (hC : C.length ≤ 1048576) (hA' : A'.length ≤ 1048576) (hB' : B'.length ≤ 1048576) (hC' : C'.length ≤ 1048576) (hP : PT w) :
    Calls Tryd.prog 3 #[.agg #[.slice aw ws.length cw, .slice am ms.length cm, .slice a A.length ca, .slice b B.length cb, .slice c C.length cc], .agg #[.slice aw' ws'.length cw', .slice am' ms'.length cm', .slice a' A'.length ca', .slice b' B'.length cb', .slice c' C'.length cc']] w fun e w' => e = .returned (.bool true) ∧ Below w.heap.size w w' := by
  obtain ⟨nw, hnw⟩ : ∃ nw, nw = ws.length := ⟨_, rfl⟩
  obtain ⟨nm, hnm⟩ : ∃ nm, nm = ms.length := ⟨_, rfl⟩
  obtain ⟨na, hna⟩ : ∃ na, na = A.length := ⟨_, rfl⟩
  obtain ⟨nb, hnb⟩ : ∃ nb, nb = B.length := ⟨_, rfl⟩
  obtain ⟨nc, hnc⟩ : ∃ nc, nc = C.length := ⟨_, rfl⟩
  obtain ⟨na', hna'⟩ : ∃ na, na = A'.length := ⟨_, rfl⟩
  obtain ⟨nb', hnb'⟩ : ∃ nb, nb = B'.length := ⟨_, rfl⟩
  obtain ⟨nc', hnc'⟩ : ∃ nc, nc = C'.length := ⟨_, rfl⟩
  have HNW := Lib.hid hnw
  have HNM := Lib.hid hnm
  have HNA := Lib.hid hna
  have HNB := Lib.hid hnb
  have HNC := Lib.hid hnc
  have HNA' := Lib.hid hna'
  have HNB' := Lib.hid hnb'
  have HNC' := Lib.hid hnc'
  have PR := fun wx h z p => print_any aw am a b c cw cm ca cb cc ws ms A B C wx h z p
  have PR' := fun wx h z p => print_any none none a' b' c' 0 0 ca' cb' cc' [] [] A' B' C' wx h z p
  rw [← hnw, ← hnm, ← hna, ← hnb, ← hnc] at PR
  rw [← hna', ← hnb', ← hnc'] at PR'
  rw [← hnw, ← hnm, ← hna, ← hnb, ← hnc, ← hna', ← hnb', ← hnc']
  have b1 := box_below w (.cells #[.slice aw nw cw, .slice am nm cm, .slice a na ca, .slice b nb cb, .slice c nc cc] 26)
  have hx1 := DBox.new w (.slice aw nw cw) (.slice am nm cm) (.slice a na ca) (.slice b nb cb) (.slice c nc cc)
  obtain ⟨Y1, hY1⟩ : ∃ Y, Y = w.alloc (.cells #[.slice aw nw cw, .slice am nm cm, .slice a na ca, .slice b nb cb, .slice c nc cc] 26) := ⟨_, rfl⟩
  have hs1 : Y1.heap.size = w.heap.size + 1 := by rw [hY1]; simp
  rw [← hY1] at b1 hx1
  have b2 := box_below Y1 (.cells #[.slice aw' ws'.length cw', .slice am' ms'.length cm', .slice a' na' ca', .slice b' nb' cb', .slice c' nc' cc'] 26)
  have hx2 := DBox.new Y1 (.slice aw' ws'.length cw') (.slice am' ms'.length cm') (.slice a' na' ca') (.slice b' nb' cb') (.slice c' nc' cc')
  obtain ⟨Y2, hY2⟩ : ∃ Y, Y = Y1.alloc (.cells #[.slice aw' ws'.length cw', .slice am' ms'.length cm', .slice a' na' ca', .slice b' nb' cb', .slice c' nc' cc'] 26) := ⟨_, rfl⟩
  rw [← hY2] at b2 hx2
  rw [hs1] at hx2
  have hx1 := hx1.below b2 (by omega)
  have B2 := b1.trans (b2.mono (by omega))
  obtain ⟨z, hz⟩ : ∃ z, z = w.heap.size := ⟨_, rfl⟩
  have HZ := Lib.hid hz
  rw [← hz] at hx1 hx2
  have HY1 := Lib.hid hY1
  have HY2 := Lib.hid hY2
  have hdw := hD.below B2
  have hdw' := hD'.below B2
  have hp2 : PT Y2 := hP.stays B2
  by_cases hm : nm ≤ 100
  · have hZ : PrZ ws ms A B C := ⟨hW, by omega, hbig, hA, hB, hC⟩
    have hZ' : PrZ [] [] A' B' C' := ⟨by show 0 ≤ _; omega, by show 0 ≤ _; omega, fun x hx => by simp at hx, hA', hB', hC'⟩
    have d0 : decide ((100 : Int) < (nm : Nat)) = false := decide_eq_false (by omega)
    have d1 : decide (100 < nm) = false := decide_eq_false (by omega)
    have x1 := hx1.c1
    have e0 := hx2.c0
    have e1 := hx2.c1
    have f2 := fun i => unfrozen_of_block (show Y2.heap[z + 1]? = _ from hx2) i
    -- the second one's words and merges are let go
    have hx3 : DBox ((Y2.setCell ⟨z + 1, 0, none⟩ (.slice none 0 0)).setCell ⟨z + 1, 1, none⟩ (.slice none 0 0)) (z + 1) (.slice none 0 0) (.slice none 0 0) (.slice a' na' ca') (.slice b' nb' cb') (.slice c' nc' cc') := by
      unfold DBox
      rw [block_setCell (block_setCell (show Y2.heap[z + 1]? = _ from hx2) _) _]
      rfl
    have B3 : Below (z + 1) Y2 ((Y2.setCell ⟨z + 1, 0, none⟩ (.slice none 0 0)).setCell ⟨z + 1, 1, none⟩ (.slice none 0 0)) := ((Below.refl _ Y2).setCell (p := ⟨z + 1, 0, none⟩) (Nat.le_refl _) _).setCell (p := ⟨z + 1, 1, none⟩) (Nat.le_refl _) _
    obtain ⟨Y3, hY3⟩ : ∃ Y, Y = (Y2.setCell ⟨z + 1, 0, none⟩ (.slice none 0 0)).setCell ⟨z + 1, 1, none⟩ (.slice none 0 0) := ⟨_, rfl⟩
    rw [← hY3] at hx3 B3
    have HY3 := Lib.hid hY3
    have hw3 := B2.trans (B3.mono (by omega))
    have hd3 := hD.below hw3
    have hd3' := hD'.below hw3
    have hp3 : PT Y3 := hP.stays hw3
    have hz3 : DBox Y3 z (.slice aw nw cw) (.slice am nm cm) (.slice a na ca) (.slice b nb cb) (.slice c nc cc) := (B3.block z (by omega)).trans hx1
    have HPR := PR Y3 hd3 hZ hp3
    obtain ⟨R, hR⟩ : ∃ R, R = printF ws ms A B C := ⟨_, rfl⟩
    obtain ⟨R', hR'⟩ : ∃ R, R = printF [] [] A' B' C' := ⟨_, rfl⟩
    rw [← hR] at HPR
    simp only [← hR'] at PR'
    have hcd := print_codes ws ms A B C
    have hcd' := print_codes [] [] A' B' C'
    have hpl := print_len hZ
    have hpl' := print_len hZ'
    have hpt := fun h h' hl hl' => parse_turn (ws := ws) (ms := ms) (A := A) (B := B) (C := C) (A' := A') (B' := B') (C' := C') hZ.m h h' hl hl'
    rw [← hR] at hcd hpl hpt
    rw [← hR'] at hcd' hpl' hpt
    have HPT := Lib.hid hpt
    have HSZ := Lib.hid hZ
    have HSZ' := Lib.hid hZ'
    have HW3' := Lib.hid hw3
    have HD3 := Lib.hid hd3
    have HD3' := Lib.hid hd3'
    have HP3 := Lib.hid hp3
    have HZ3 := Lib.hid hz3
    have HX3 := Lib.hid hx3
    have HPR' := Lib.hid PR'
    have y0 := hz3.c0
    have y1 := hz3.c1
    have y2 := hz3.c2
    have y3 := hz3.c3
    have y4 := hz3.c4
    clear hx1 hx2 hdw hdw' hp2 hW hM hA hB hC hA' hB' hC' hbig PR PR' hY1 hY2 hY3 hz hs1 b1 b2 B2 hD hD' hP hnw hnm hna hnb hnc hna' hnb' hnc' hw3 hd3 hd3' hp3 hz3 hx3 hR hR' hpt hZ hZ' B3
    go_enter Tryd.func3, Tryd.ntmps3
    go_upto_region 1 with fail
    rw [← HY1.out, ← HY2.out, ← HZ.out]
    clear HY1 HY2
    go_upto_region 5 with fail
    rw [← HY3.out]
    clear HY3 e0 e1 f2 x1
    go_wp2_with fail
    refine HPR.mono ?_
    rintro e w1 ⟨rfl, hb1⟩
    clear HPR y0 y1 y2 y3 y4
    obtain ⟨T, E⟩ := R
    obtain ⟨T', E'⟩ := R'
    simp only at hcd hcd' hpl hpl'
    have hx3 := HX3.out.below hb1 HX3.out.lt
    have hd1' := HD3'.out.below hb1
    have hd1 := HD3.out.below hb1
    have HPR' := HPR'.out w1 ⟨.inl rfl, .inl rfl, hd1'.hA, hd1'.hB, hd1'.hC⟩ HSZ'.out (HP3.out.stays hb1)
    have y0 := hx3.c0
    have y1 := hx3.c1
    have y2 := hx3.c2
    have y3 := hx3.c3
    have y4 := hx3.c4
    have HD1 := Lib.hid hd1
    have HD1' := Lib.hid hd1'
    have HZ1 := Lib.hid (HZ3.out.below hb1 HZ3.out.lt)
    have HX1 := Lib.hid hx3
    have HB1 := Lib.hid (HW3'.out.trans (hb1.mono HW3'.out.size))
    clear hx3 hd1' hd1 hb1 HD3 HD3' HZ3 HX3 HW3'
    go_wp2_with fail
    refine HPR'.mono ?_
    rintro e w2 ⟨rfl, hb2⟩
    clear HPR' y0 y1 y2 y3 y4
    have HD2 := Lib.hid (HD1.out.below hb2)
    have HD2' := Lib.hid (HD1'.out.below hb2)
    have HZ2 := Lib.hid (HZ1.out.below hb2 HZ1.out.lt)
    have HX2 := Lib.hid (HX1.out.below hb2 HX1.out.lt)
    have HBB := Lib.hid (HB1.out.trans (hb2.mono HB1.out.size))
    clear hb2 HD1 HD1' HZ1 HX1 HB1
    rcases hcd with rfl | rfl | rfl
    · rcases hcd' with rfl | rfl | rfl
      · have g1 : (textOf T).size = T.length := rfl
        have g2 : (textOf T').size = T'.length := rfl
        by_cases h1 : 100000 < T.length
        · have q1 : decide ((100000 : Int) < (T.length : Nat)) = true := decide_eq_true (by omega)
          have q2 : decide (100000 < T.length) = true := decide_eq_true h1
          clear h1
          go_wp2_with fail
          refine (known_any _).mono ?_
          rintro e w7 ⟨rfl, hb7⟩
          go_wp2_with fail
          go_ret
          exact ⟨rfl, HBB.out.trans (hb7.mono HBB.out.size)⟩
        · by_cases h2 : 100000 < T'.length
          · have q1 : decide ((100000 : Int) < (T.length : Nat)) = false := decide_eq_false (by omega)
            have q2 : decide (100000 < T.length) = false := decide_eq_false h1
            have q3 : decide ((100000 : Int) < (T'.length : Nat)) = true := decide_eq_true (by omega)
            have q4 : decide (100000 < T'.length) = true := decide_eq_true h2
            clear h1 h2
            go_wp2_with fail
            refine (known_any _).mono ?_
            rintro e w7 ⟨rfl, hb7⟩
            go_wp2_with fail
            go_ret
            exact ⟨rfl, HBB.out.trans (hb7.mono HBB.out.size)⟩
          · have q1 : decide ((100000 : Int) < (T.length : Nat)) = false := decide_eq_false (by omega)
            have q2 : decide (100000 < T.length) = false := decide_eq_false h1
            have q3 : decide ((100000 : Int) < (T'.length : Nat)) = false := decide_eq_false (by omega)
            have q4 : decide (100000 < T'.length) = false := decide_eq_false h2
            obtain ⟨p1, p2⟩ := HPT.out rfl rfl (by show T.length ≤ _; omega) (by show T'.length ≤ _; omega)
            have HPA1 := Lib.hid (fun wx => parse_any (textOf (T ++ T')) (fun _ => (0, 0)) wx (by show (T ++ T').length ≤ _; rw [List.length_append]; omega) (fun y hy => by rw [tl_textOf, p1] at hy; cases hy))
            have HPA2 := Lib.hid (fun wx => parse_any (textOf (T' ++ T)) (fun _ => (0, 0)) wx (by show (T' ++ T).length ≤ _; rw [List.length_append]; omega) (fun y hy => by rw [tl_textOf, p2] at hy; cases hy))
            rw [tl_textOf, p1] at HPA1
            rw [tl_textOf, p2] at HPA2
            have HS1 := Lib.hid (text_add T T')
            have HS2 := Lib.hid (text_add T' T)
            clear p1 p2 h1 h2
            go_wp2_with fail
            rw [HS1.out]
            refine (HPA1.out w2).mono ?_
            rintro e u1a ⟨hb, vW, vM, vA, vB, vC, rfl, hO⟩
            obtain ⟨xW1, cW1, rfl⟩ := hO.oW.slice
            obtain ⟨xM1, cM1, rfl⟩ := hO.oM.slice
            obtain ⟨xA1, cA1, rfl⟩ := hO.oA.slice
            obtain ⟨xB1, cB1, rfl⟩ := hO.oB.slice
            obtain ⟨xC1, cC1, rfl⟩ := hO.oC.slice
            have pW := hO.oW.wsp
            have pM := hO.oM.msp
            have pA := hO.oA.sps
            have pB := hO.oB.sps
            have pC := hO.oC.sps
            simp only at pW pM pA pB pC
            rw [texts_back] at pW
            obtain ⟨lA1, hlA⟩ : ∃ l, l = (A ++ A').length := ⟨_, rfl⟩
            obtain ⟨lB1, hlB⟩ : ∃ l, l = (B ++ B').length := ⟨_, rfl⟩
            obtain ⟨lC1, hlC⟩ : ∃ l, l = (C ++ C').length := ⟨_, rfl⟩
            have HLA1 := Lib.hid hlA
            have HLB1 := Lib.hid hlB
            have HLC1 := Lib.hid hlC
            rw [List.length_map, ← HNW.out, ← HNM.out, ← hlA, ← hlB, ← hlC]
            have bx1 := box_below u1a (.cells #[.slice xW1 nw cW1, .slice xM1 nm cM1, .slice xA1 lA1 cA1, .slice xB1 lB1 cB1, .slice xC1 lC1 cC1] 26)
            have hx1 := heap_alloc_new u1a (.cells #[.slice xW1 nw cW1, .slice xM1 nm cM1, .slice xA1 lA1 cA1, .slice xB1 lB1 cB1, .slice xC1 lC1 cC1] 26)
            obtain ⟨u1b, hw3⟩ : ∃ w3, w3 = u1a.alloc (.cells #[.slice xW1 nw cW1, .slice xM1 nm cM1, .slice xA1 lA1 cA1, .slice xB1 lB1 cB1, .slice xC1 lC1 cC1] 26) := ⟨_, rfl⟩
            have hs3 : u1b.heap.size = u1a.heap.size + 1 := by rw [hw3]; simp
            rw [← hw3] at bx1 hx1
            have bx2 := box_below u1b (.cells #[.int .i64 0, .int .i64 0, .int .i64 0] 32)
            obtain ⟨u1, hw4⟩ : ∃ w4, w4 = u1b.alloc (.cells #[.int .i64 0, .int .i64 0, .int .i64 0] 32) := ⟨_, rfl⟩
            rw [← hw4] at bx2
            have hx2 := (bx2.block u1a.heap.size (by omega)).trans hx1
            have hb4 := (hb.trans (bx1.mono hb.size)).trans (bx2.mono (by have := hb.size; omega))
            have HPd1 := Lib.hid (show PrD u1 xW1 xM1 xA1 xB1 xC1 ws ms (A ++ A') (B ++ B') (C ++ C') from (PrD.mk pW pM pA pB pC).below (bx1.trans (bx2.mono (by omega))))
            have HW3 := Lib.hid hw3
            have HW4 := Lib.hid hw4
            obtain ⟨t1, hy⟩ : ∃ y, y = u1a.heap.size := ⟨_, rfl⟩
            rw [← hy] at hx2
            have HYZ := Lib.hid hy
            have HXD1 := Lib.hid hx2
            have HBS1 := Lib.hid hb4
            clear hO pW pM pA pB pC bx1 bx2 hx1 hs3 hb hb4 hw3 hw4 hy hx2 hlA hlB hlC
            go_upto_region 10 with fail
            rw [← HW3.out, ← HW4.out, ← HYZ.out]
            clear HW3 HW4 HYZ
            go_wp2_with fail
            rw [HS2.out]
            refine (HPA2.out u1).mono ?_
            rintro e u2a ⟨hb, vW, vM, vA, vB, vC, rfl, hO⟩
            obtain ⟨xW2, cW2, rfl⟩ := hO.oW.slice
            obtain ⟨xM2, cM2, rfl⟩ := hO.oM.slice
            obtain ⟨xA2, cA2, rfl⟩ := hO.oA.slice
            obtain ⟨xB2, cB2, rfl⟩ := hO.oB.slice
            obtain ⟨xC2, cC2, rfl⟩ := hO.oC.slice
            have pW := hO.oW.wsp
            have pM := hO.oM.msp
            have pA := hO.oA.sps
            have pB := hO.oB.sps
            have pC := hO.oC.sps
            simp only at pW pM pA pB pC
            rw [texts_back] at pW
            obtain ⟨lA2, hlA⟩ : ∃ l, l = (A' ++ A).length := ⟨_, rfl⟩
            obtain ⟨lB2, hlB⟩ : ∃ l, l = (B' ++ B).length := ⟨_, rfl⟩
            obtain ⟨lC2, hlC⟩ : ∃ l, l = (C' ++ C).length := ⟨_, rfl⟩
            have HLA2 := Lib.hid hlA
            have HLB2 := Lib.hid hlB
            have HLC2 := Lib.hid hlC
            rw [List.length_map, ← HNW.out, ← HNM.out, ← hlA, ← hlB, ← hlC]
            have bx1 := box_below u2a (.cells #[.slice xW2 nw cW2, .slice xM2 nm cM2, .slice xA2 lA2 cA2, .slice xB2 lB2 cB2, .slice xC2 lC2 cC2] 26)
            have hx1 := heap_alloc_new u2a (.cells #[.slice xW2 nw cW2, .slice xM2 nm cM2, .slice xA2 lA2 cA2, .slice xB2 lB2 cB2, .slice xC2 lC2 cC2] 26)
            obtain ⟨u2b, hw3⟩ : ∃ w3, w3 = u2a.alloc (.cells #[.slice xW2 nw cW2, .slice xM2 nm cM2, .slice xA2 lA2 cA2, .slice xB2 lB2 cB2, .slice xC2 lC2 cC2] 26) := ⟨_, rfl⟩
            have hs3 : u2b.heap.size = u2a.heap.size + 1 := by rw [hw3]; simp
            rw [← hw3] at bx1 hx1
            have bx2 := box_below u2b (.cells #[.int .i64 0, .int .i64 0, .int .i64 0] 32)
            obtain ⟨u2, hw4⟩ : ∃ w4, w4 = u2b.alloc (.cells #[.int .i64 0, .int .i64 0, .int .i64 0] 32) := ⟨_, rfl⟩
            rw [← hw4] at bx2
            have hx2 := (bx2.block u2a.heap.size (by omega)).trans hx1
            have hb4 := (hb.trans (bx1.mono hb.size)).trans (bx2.mono (by have := hb.size; omega))
            have HPd2 := Lib.hid (show PrD u2 xW2 xM2 xA2 xB2 xC2 ws ms (A' ++ A) (B' ++ B) (C' ++ C) from (PrD.mk pW pM pA pB pC).below (bx1.trans (bx2.mono (by omega))))
            have HW3 := Lib.hid hw3
            have HW4 := Lib.hid hw4
            obtain ⟨t2, hy⟩ : ∃ y, y = u2a.heap.size := ⟨_, rfl⟩
            rw [← hy] at hx2
            have HYZ := Lib.hid hy
            have HXD2 := Lib.hid hx2
            have HBS2 := Lib.hid hb4
            clear hO pW pM pA pB pC bx1 bx2 hx1 hs3 hb hb4 hw3 hw4 hy hx2 hlA hlB hlC
            go_upto_region 11 with fail
            rw [← HW3.out, ← HW4.out, ← HYZ.out]
            clear HW3 HW4 HYZ
            have hb12 := HBS1.out.trans (HBS2.out.mono HBS1.out.size)
            have hdx := HD2.out.below hb12
            have hdx' := HD2'.out.below hb12
            have hzx := HZ2.out.below hb12 HZ2.out.lt
            have hxx := HX2.out.below hb12 HX2.out.lt
            have hp1 := HPd1.out.below HBS2.out
            have h1x := (HBS2.out.block t1 (Array.getElem?_eq_some_iff.1 HXD1.out).1).trans HXD1.out
            have h2x := HXD2.out
            have HBB := Lib.hid (HBB.out.trans (hb12.mono HBB.out.size))
            have z0 := hzx.c0
            have z1 := hzx.c1
            have a10 := cell_of_block h1x 0
            have a21 := cell_of_block h2x 1
            have hZ := HSZ.out
            have hS1 := sameW_any xW1 aw cW1 cw ws u2 (by have := hZ.w; omega) hp1.hW hdx.hW
            rw [← HNW.out] at hS1
            have HDX := Lib.hid hdx
            have HDX' := Lib.hid hdx'
            have HZX := Lib.hid hzx
            have HXX := Lib.hid hxx
            have HP1 := Lib.hid hp1
            have H1X := Lib.hid h1x
            have H2X := Lib.hid h2x
            clear hb12 hdx hdx' hzx hxx hp1 h1x h2x HBS1 HBS2 HD2 HD2' HZ2 HX2 HPd1 HXD1 HXD2
            have hxs : TS z t1 t2 (.slice aw nw cw) (.slice am nm cm) (.slice a na ca) (.slice c nc cc) (.slice a' na' ca') (.slice c' nc' cc') (.slice xW1 nw cW1) (.slice xA1 lA1 cA1) (.slice xM2 nm cM2) (.slice xC2 lC2 cC2) u2 :=
              ⟨HZX.out.c0, HZX.out.c1, HZX.out.c2, HZX.out.c4, HXX.out.c2, HXX.out.c4, cell_of_block H1X.out 0, cell_of_block H1X.out 2, cell_of_block H2X.out 1, cell_of_block H2X.out 4⟩
            have hbd : Below u2.heap.size u2 u2.drew := ⟨rfl, rfl, rfl, Nat.le_refl _, fun _ _ => rfl⟩
            have hS := hxs.below hbd
            have HDX3 := Lib.hid (HDX.out.below hbd)
            have HDX3' := Lib.hid (HDX'.out.below hbd)
            have HP13 := Lib.hid (HP1.out.below hbd)
            have HP23 := Lib.hid (HPd2.out.below hbd)
            have HB0 := Lib.hid (HBB.out.trans (hbd.mono HBB.out.size))
            have HSZa := Lib.hid (⟨hZ.w, hZ.m, hZ.a, hZ.c, HSZ'.out.a, HSZ'.out.c⟩ : ws.length ≤ 1048576 ∧ ms.length ≤ 100 ∧ A.length ≤ 1048576 ∧ C.length ≤ 1048576 ∧ A'.length ≤ 1048576 ∧ C'.length ≤ 1048576)
            clear hxs hbd z0 z1 a10 a21 hS1 HDX HDX' HP1 HPd2 HZX HXX H1X H2X hZ HBB q1 q2 q3 q4 g1 g2
            go_wp2_with fail
            refine wp_region_heldtail 39 (TS z t1 t2 (.slice aw nw cw) (.slice am nm cm) (.slice a na ca) (.slice c nc cc) (.slice a' na' ca') (.slice c' nc' cc') (.slice xW1 nw cW1) (.slice xA1 lA1 cA1) (.slice xM2 nm cM2) (.slice xC2 lC2 cC2)) (by kernel_rfl) (by kernel_rfl) ?_
            refine HL_take (i := 0) (.pointer (some ⟨t1, 0, none⟩)) (by kernel_rfl) rfl (by omega) (by kernel_rfl) (by kernel_rfl) (by kernel_rfl) (fun _ _ _ h => h) (.inl ⟨by kernel_rfl, fun w' hw' => by go_simp⟩) hS ?_
            simp only [Act.put, List.getElem_toArray, List.getElem_cons_zero, List.getElem_cons_succ, List.setIfInBounds_toArray, List.set_cons_zero, List.set_cons_succ]
            refine HL_take (i := 1) (.slice xW1 nw cW1) (by kernel_rfl) rfl (by omega) (by kernel_rfl) (by kernel_rfl) (by kernel_rfl) (fun _ _ _ h => h) (.inl ⟨by kernel_rfl, fun w' hw' => by have hq := hw'.x0; go_simp⟩) hS ?_
            simp only [Act.put, List.getElem_toArray, List.getElem_cons_zero, List.getElem_cons_succ, List.setIfInBounds_toArray, List.set_cons_zero, List.set_cons_succ]
            refine HL_take (i := 2) (.pointer (some ⟨z, 0, none⟩)) (by kernel_rfl) rfl (by omega) (by kernel_rfl) (by kernel_rfl) (by kernel_rfl) (fun _ _ _ h => h) (.inl ⟨by kernel_rfl, fun w' hw' => by go_simp⟩) hS ?_
            simp only [Act.put, List.getElem_toArray, List.getElem_cons_zero, List.getElem_cons_succ, List.setIfInBounds_toArray, List.set_cons_zero, List.set_cons_succ]
            refine HL_take (i := 3) (.slice aw nw cw) (by kernel_rfl) rfl (by omega) (by kernel_rfl) (by kernel_rfl) (by kernel_rfl) (fun _ _ _ h => h) (.inl ⟨by kernel_rfl, fun w' hw' => by have hq := hw'.z0; go_simp⟩) hS ?_
            simp only [Act.put, List.getElem_toArray, List.getElem_cons_zero, List.getElem_cons_succ, List.setIfInBounds_toArray, List.set_cons_zero, List.set_cons_succ]
            refine HL_one2 (i := 4) rfl (by omega) (by kernel_rfl) (by kernel_rfl) ?_
            have hC := sameW_any xW1 aw cW1 cw ws u2.drew (by have := HSZa.out.1; omega) HP13.out.hW HDX3.out.hW
            rw [← HNW.out] at hC
            refine wp_enter (f := 7) (args := #[.slice xW1 nw cW1, .slice aw nw cw]) (by go_simp) (hC.mono ?_)
            clear hC
            rintro e w3 ⟨rfl, hb⟩
            have hS := hS.below hb
            have HDX4 := Lib.hid (HDX3.out.below hb)
            have HDX4' := Lib.hid (HDX3'.out.below hb)
            have HP14 := Lib.hid (HP13.out.below hb)
            have HP24 := Lib.hid (HP23.out.below hb)
            have HB1 := Lib.hid (HB0.out.trans (hb.mono HB0.out.size))
            clear hb HDX3 HDX3' HP13 HP23 HB0
            refine ⟨_, rfl, hS, ?_⟩
            simp only [Act.put, List.getElem_toArray, List.getElem_cons_zero, List.getElem_cons_succ, List.setIfInBounds_toArray, List.set_cons_zero, List.set_cons_succ]
            refine HL_take (i := 5) (.bool true) (by kernel_rfl) rfl (by omega) (by kernel_rfl) (by kernel_rfl) (by kernel_rfl) (fun _ _ _ h => h) (.inl ⟨by kernel_rfl, fun w' hw' => by go_simp⟩) hS ?_
            simp only [Act.put, List.getElem_toArray, List.getElem_cons_zero, List.getElem_cons_succ, List.setIfInBounds_toArray, List.set_cons_zero, List.set_cons_succ]
            refine HL_take (i := 6) (.pointer (some ⟨t2, 1, none⟩)) (by kernel_rfl) rfl (by omega) (by kernel_rfl) (by kernel_rfl) (by kernel_rfl) (fun _ _ _ h => h) (.inl ⟨by kernel_rfl, fun w' hw' => by go_simp⟩) hS ?_
            simp only [Act.put, List.getElem_toArray, List.getElem_cons_zero, List.getElem_cons_succ, List.setIfInBounds_toArray, List.set_cons_zero, List.set_cons_succ]
            refine HL_take (i := 7) (.slice xM2 nm cM2) (by kernel_rfl) rfl (by omega) (by kernel_rfl) (by kernel_rfl) (by kernel_rfl) (fun _ _ _ h => h) (.inl ⟨by kernel_rfl, fun w' hw' => by have hq := hw'.y1; go_simp⟩) hS ?_
            simp only [Act.put, List.getElem_toArray, List.getElem_cons_zero, List.getElem_cons_succ, List.setIfInBounds_toArray, List.set_cons_zero, List.set_cons_succ]
            refine HL_take (i := 8) (.pointer (some ⟨z, 1, none⟩)) (by kernel_rfl) rfl (by omega) (by kernel_rfl) (by kernel_rfl) (by kernel_rfl) (fun _ _ _ h => h) (.inl ⟨by kernel_rfl, fun w' hw' => by go_simp⟩) hS ?_
            simp only [Act.put, List.getElem_toArray, List.getElem_cons_zero, List.getElem_cons_succ, List.setIfInBounds_toArray, List.set_cons_zero, List.set_cons_succ]
            refine HL_take (i := 9) (.slice am nm cm) (by kernel_rfl) rfl (by omega) (by kernel_rfl) (by kernel_rfl) (by kernel_rfl) (fun _ _ _ h => h) (.inl ⟨by kernel_rfl, fun w' hw' => by have hq := hw'.z1; go_simp⟩) hS ?_
            simp only [Act.put, List.getElem_toArray, List.getElem_cons_zero, List.getElem_cons_succ, List.setIfInBounds_toArray, List.set_cons_zero, List.set_cons_succ]
            refine HL_one2 (i := 10) rfl (by omega) (by kernel_rfl) (by kernel_rfl) ?_
            have hC := sameM_any xM2 am cM2 cm ms w3 (by have := HSZa.out.2.1; omega) HP24.out.hM HDX4.out.hM
            rw [← HNM.out] at hC
            refine wp_enter (f := 8) (args := #[.slice xM2 nm cM2, .slice am nm cm]) (by go_simp) (hC.mono ?_)
            clear hC
            rintro e w4 ⟨rfl, hb⟩
            have hS := hS.below hb
            have HDX5 := Lib.hid (HDX4.out.below hb)
            have HDX5' := Lib.hid (HDX4'.out.below hb)
            have HP15 := Lib.hid (HP14.out.below hb)
            have HP25 := Lib.hid (HP24.out.below hb)
            have HB2 := Lib.hid (HB1.out.trans (hb.mono HB1.out.size))
            clear hb HDX4 HDX4' HP14 HP24 HB1
            refine ⟨_, rfl, hS, ?_⟩
            simp only [Act.put, List.getElem_toArray, List.getElem_cons_zero, List.getElem_cons_succ, List.setIfInBounds_toArray, List.set_cons_zero, List.set_cons_succ]
            refine HL_take (i := 11) (.bool true) (by kernel_rfl) rfl (by omega) (by kernel_rfl) (by kernel_rfl) (by kernel_rfl) (fun _ _ _ h => h) (.inl ⟨by kernel_rfl, fun w' hw' => by go_simp⟩) hS ?_
            simp only [Act.put, List.getElem_toArray, List.getElem_cons_zero, List.getElem_cons_succ, List.setIfInBounds_toArray, List.set_cons_zero, List.set_cons_succ]
            refine HL_take (i := 12) (.bool true) (by kernel_rfl) rfl (by omega) (by kernel_rfl) (by kernel_rfl) (by kernel_rfl) (fun _ _ _ h => h) (.inl ⟨by kernel_rfl, fun w' hw' => by go_simp⟩) hS ?_
            simp only [Act.put, List.getElem_toArray, List.getElem_cons_zero, List.getElem_cons_succ, List.setIfInBounds_toArray, List.set_cons_zero, List.set_cons_succ]
            have hS0a := hS
            refine HL_take (i := 13) (.pointer (some ⟨t1, 2, none⟩)) (by kernel_rfl) rfl (by omega) (by kernel_rfl) (by kernel_rfl) (by kernel_rfl) (fun _ _ _ h => h) (.inl ⟨by kernel_rfl, fun w' hw' => by go_simp⟩) hS ?_
            simp only [Act.put, List.getElem_toArray, List.getElem_cons_zero, List.getElem_cons_succ, List.setIfInBounds_toArray, List.set_cons_zero, List.set_cons_succ]
            refine HL_take (i := 14) (.slice xA1 lA1 cA1) (by kernel_rfl) rfl (by omega) (by kernel_rfl) (by kernel_rfl) (by kernel_rfl) (fun _ _ _ h => h) (.inl ⟨by kernel_rfl, fun w' hw' => by have hq := hw'.x2; go_simp⟩) hS ?_
            simp only [Act.put, List.getElem_toArray, List.getElem_cons_zero, List.getElem_cons_succ, List.setIfInBounds_toArray, List.set_cons_zero, List.set_cons_succ]
            refine HL_take (i := 16) (.pointer (some ⟨z, 2, none⟩)) (by kernel_rfl) rfl (by omega) (by kernel_rfl) (by kernel_rfl) (by kernel_rfl) (fun _ _ _ h => h) (.inl ⟨by kernel_rfl, fun w' hw' => by go_simp⟩) hS ?_
            simp only [Act.put, List.getElem_toArray, List.getElem_cons_zero, List.getElem_cons_succ, List.setIfInBounds_toArray, List.set_cons_zero, List.set_cons_succ]
            refine HL_take (i := 17) (.slice a na ca) (by kernel_rfl) rfl (by omega) (by kernel_rfl) (by kernel_rfl) (by kernel_rfl) (fun _ _ _ h => h) (.inl ⟨by kernel_rfl, fun w' hw' => by have hq := hw'.z2; go_simp⟩) hS ?_
            simp only [Act.put, List.getElem_toArray, List.getElem_cons_zero, List.getElem_cons_succ, List.setIfInBounds_toArray, List.set_cons_zero, List.set_cons_succ]
            refine HL_take (i := 19) (.pointer (some ⟨z + 1, 2, none⟩)) (by kernel_rfl) rfl (by omega) (by kernel_rfl) (by kernel_rfl) (by kernel_rfl) (fun _ _ _ h => h) (.inl ⟨by kernel_rfl, fun w' hw' => by go_simp⟩) hS ?_
            simp only [Act.put, List.getElem_toArray, List.getElem_cons_zero, List.getElem_cons_succ, List.setIfInBounds_toArray, List.set_cons_zero, List.set_cons_succ]
            refine HL_take (i := 20) (.slice a' na' ca') (by kernel_rfl) rfl (by omega) (by kernel_rfl) (by kernel_rfl) (by kernel_rfl) (fun _ _ _ h => h) (.inl ⟨by kernel_rfl, fun w' hw' => by have hq := hw'.o2; go_simp⟩) hS ?_
            simp only [Act.put, List.getElem_toArray, List.getElem_cons_zero, List.getElem_cons_succ, List.setIfInBounds_toArray, List.set_cons_zero, List.set_cons_succ]
            refine HL_one2 (i := 15) rfl (by omega) (by kernel_rfl) (by kernel_rfl) ?_
            refine wp_value (v := .slice (some ⟨w4.heap.size, 0, none⟩) 0 0) (w' := w4.alloc (.cells #[] 41)) (by go_simp) ?_
            have bxe := box_below w4 (.cells #[] 41)
            have hS := hS.below bxe
            refine ⟨hS, ?_⟩
            simp only [Act.put, List.getElem_toArray, List.getElem_cons_zero, List.getElem_cons_succ, List.setIfInBounds_toArray, List.set_cons_zero, List.set_cons_succ]
            have hown : OwnG 41 2 encS (w4.alloc (.cells #[] 41)) w4.heap.size (.slice (some ⟨w4.heap.size, 0, none⟩) 0 0) [] := ⟨rfl, .inr ⟨w4.heap.size, 0, #[], rfl, Nat.le_refl _, heap_alloc_new w4 _, Nat.le_refl _, by simp [maxLen], rfl, rfl⟩⟩
            obtain ⟨v5, w5, hr5, hO5, hB5⟩ := put_sps _ w4.heap.size _ [] A a ca hown (HDX5.out.below bxe).hA bxe.size (by have := HSZa.out; simp only [List.length_nil]; omega)
            have hw5 := bxe.trans hB5
            have hS := (hS0a).below hw5
            rw [← HNA.out] at hr5
            refine HL_one2 (i := 18) rfl (by omega) (by kernel_rfl) (by kernel_rfl) ?_
            refine wp_append (.tmp 86) (.tmp 88) 24 24 (by kernel_rfl) (.slice (some ⟨w4.heap.size, 0, none⟩) 0 0) (.slice a na ca) (by go_simp) (by go_simp) (fun v' w' => v' = v5 ∧ w' = w5) ⟨_, w5, hr5, rfl, rfl⟩ ?_
            rintro v' w' ⟨e1, e2⟩
            obtain rfl : w5 = w' := e2.symm
            obtain rfl : v5 = v' := e1.symm
            refine ⟨hS, ?_⟩
            simp only [Act.put, List.getElem_toArray, List.getElem_cons_zero, List.getElem_cons_succ, List.setIfInBounds_toArray, List.set_cons_zero, List.set_cons_succ]
            clear hr5
            obtain ⟨v6, w6, hr6, hO6, hB6⟩ := put_sps w5 w4.heap.size v5 ([] ++ A) A' a' ca' hO5 (HDX5'.out.below hw5).hA hw5.size (by have := HSZa.out; simp only [List.nil_append]; omega)
            have hw6 := hw5.trans hB6
            have hS := (hS0a).below hw6
            rw [← HNA'.out] at hr6
            rw [List.nil_append] at hO6
            obtain ⟨a6, c6, rfl⟩ := hO6.slice
            refine HL_one2 (i := 21) rfl (by omega) (by kernel_rfl) (by kernel_rfl) ?_
            refine wp_append (.tmp 89) (.tmp 91) 24 24 (by kernel_rfl) v5 (.slice a' na' ca') (by go_simp) (by go_simp) (fun v' w' => v' = .slice a6 (A ++ A').length c6 ∧ w' = w6) ⟨_, w6, hr6, rfl, rfl⟩ ?_
            rintro v' w' ⟨e1, e2⟩
            obtain rfl : w6 = w' := e2.symm
            subst e1
            refine ⟨hS, ?_⟩
            simp only [Act.put, List.getElem_toArray, List.getElem_cons_zero, List.getElem_cons_succ, List.setIfInBounds_toArray, List.set_cons_zero, List.set_cons_succ]
            have hC := same_any xA1 a6 cA1 c6 (A ++ A') w6 (by have := HSZa.out; rw [List.length_append]; omega) (HP15.out.below hw6).hA hO6.sps
            rw [← HLA1.out] at hC ⊢
            clear hr6
            refine HL_one2 (i := 22) rfl (by omega) (by kernel_rfl) (by kernel_rfl) ?_
            refine wp_enter (f := 9) (args := #[.slice xA1 lA1 cA1, .slice a6 lA1 c6]) (by go_simp) (hC.mono ?_)
            clear hC
            rintro e w7 ⟨rfl, hb⟩
            have hw7 := hw6.trans (hb.mono hw6.size)
            have hS := (hS0a).below hw7
            have HDX6 := Lib.hid (HDX5.out.below hw7)
            have HDX6' := Lib.hid (HDX5'.out.below hw7)
            have HP26 := Lib.hid (HP25.out.below hw7)
            have HB3 := Lib.hid (HB2.out.trans (hw7.mono HB2.out.size))
            clear hb hw5 hw6 hw7 hO5 hO6 hB5 hB6 hown bxe hS0a HDX5 HDX5' HP15 HP25 HB2
            refine ⟨_, rfl, hS, ?_⟩
            simp only [Act.put, List.getElem_toArray, List.getElem_cons_zero, List.getElem_cons_succ, List.setIfInBounds_toArray, List.set_cons_zero, List.set_cons_succ]
            refine HL_take (i := 23) (.bool true) (by kernel_rfl) rfl (by omega) (by kernel_rfl) (by kernel_rfl) (by kernel_rfl) (fun _ _ _ h => h) (.inl ⟨by kernel_rfl, fun w' hw' => by go_simp⟩) hS ?_
            simp only [Act.put, List.getElem_toArray, List.getElem_cons_zero, List.getElem_cons_succ, List.setIfInBounds_toArray, List.set_cons_zero, List.set_cons_succ]
            refine HL_take (i := 24) (.bool true) (by kernel_rfl) rfl (by omega) (by kernel_rfl) (by kernel_rfl) (by kernel_rfl) (fun _ _ _ h => h) (.inl ⟨by kernel_rfl, fun w' hw' => by go_simp⟩) hS ?_
            simp only [Act.put, List.getElem_toArray, List.getElem_cons_zero, List.getElem_cons_succ, List.setIfInBounds_toArray, List.set_cons_zero, List.set_cons_succ]
            have hS0b := hS
            refine HL_take (i := 25) (.pointer (some ⟨t2, 4, none⟩)) (by kernel_rfl) rfl (by omega) (by kernel_rfl) (by kernel_rfl) (by kernel_rfl) (fun _ _ _ h => h) (.inl ⟨by kernel_rfl, fun w' hw' => by go_simp⟩) hS ?_
            simp only [Act.put, List.getElem_toArray, List.getElem_cons_zero, List.getElem_cons_succ, List.setIfInBounds_toArray, List.set_cons_zero, List.set_cons_succ]
            refine HL_take (i := 26) (.slice xC2 lC2 cC2) (by kernel_rfl) rfl (by omega) (by kernel_rfl) (by kernel_rfl) (by kernel_rfl) (fun _ _ _ h => h) (.inl ⟨by kernel_rfl, fun w' hw' => by have hq := hw'.y4; go_simp⟩) hS ?_
            simp only [Act.put, List.getElem_toArray, List.getElem_cons_zero, List.getElem_cons_succ, List.setIfInBounds_toArray, List.set_cons_zero, List.set_cons_succ]
            refine HL_take (i := 28) (.pointer (some ⟨z + 1, 4, none⟩)) (by kernel_rfl) rfl (by omega) (by kernel_rfl) (by kernel_rfl) (by kernel_rfl) (fun _ _ _ h => h) (.inl ⟨by kernel_rfl, fun w' hw' => by go_simp⟩) hS ?_
            simp only [Act.put, List.getElem_toArray, List.getElem_cons_zero, List.getElem_cons_succ, List.setIfInBounds_toArray, List.set_cons_zero, List.set_cons_succ]
            refine HL_take (i := 29) (.slice c' nc' cc') (by kernel_rfl) rfl (by omega) (by kernel_rfl) (by kernel_rfl) (by kernel_rfl) (fun _ _ _ h => h) (.inl ⟨by kernel_rfl, fun w' hw' => by have hq := hw'.o4; go_simp⟩) hS ?_
            simp only [Act.put, List.getElem_toArray, List.getElem_cons_zero, List.getElem_cons_succ, List.setIfInBounds_toArray, List.set_cons_zero, List.set_cons_succ]
            refine HL_take (i := 31) (.pointer (some ⟨z, 4, none⟩)) (by kernel_rfl) rfl (by omega) (by kernel_rfl) (by kernel_rfl) (by kernel_rfl) (fun _ _ _ h => h) (.inl ⟨by kernel_rfl, fun w' hw' => by go_simp⟩) hS ?_
            simp only [Act.put, List.getElem_toArray, List.getElem_cons_zero, List.getElem_cons_succ, List.setIfInBounds_toArray, List.set_cons_zero, List.set_cons_succ]
            refine HL_take (i := 32) (.slice c nc cc) (by kernel_rfl) rfl (by omega) (by kernel_rfl) (by kernel_rfl) (by kernel_rfl) (fun _ _ _ h => h) (.inl ⟨by kernel_rfl, fun w' hw' => by have hq := hw'.z4; go_simp⟩) hS ?_
            simp only [Act.put, List.getElem_toArray, List.getElem_cons_zero, List.getElem_cons_succ, List.setIfInBounds_toArray, List.set_cons_zero, List.set_cons_succ]
            refine HL_one2 (i := 27) rfl (by omega) (by kernel_rfl) (by kernel_rfl) ?_
            refine wp_value (v := .slice (some ⟨w7.heap.size, 0, none⟩) 0 0) (w' := w7.alloc (.cells #[] 41)) (by go_simp) ?_
            have bxe := box_below w7 (.cells #[] 41)
            have hS := hS.below bxe
            refine ⟨hS, ?_⟩
            simp only [Act.put, List.getElem_toArray, List.getElem_cons_zero, List.getElem_cons_succ, List.setIfInBounds_toArray, List.set_cons_zero, List.set_cons_succ]
            have hown : OwnG 41 2 encS (w7.alloc (.cells #[] 41)) w7.heap.size (.slice (some ⟨w7.heap.size, 0, none⟩) 0 0) [] := ⟨rfl, .inr ⟨w7.heap.size, 0, #[], rfl, Nat.le_refl _, heap_alloc_new w7 _, Nat.le_refl _, by simp [maxLen], rfl, rfl⟩⟩
            obtain ⟨v5, w5, hr5, hO5, hB5⟩ := put_sps _ w7.heap.size _ [] C' c' cc' hown (HDX6'.out.below bxe).hC bxe.size (by have := HSZa.out; simp only [List.length_nil]; omega)
            have hw5 := bxe.trans hB5
            have hS := (hS0b).below hw5
            rw [← HNC'.out] at hr5
            refine HL_one2 (i := 30) rfl (by omega) (by kernel_rfl) (by kernel_rfl) ?_
            refine wp_append (.tmp 98) (.tmp 100) 24 24 (by kernel_rfl) (.slice (some ⟨w7.heap.size, 0, none⟩) 0 0) (.slice c' nc' cc') (by go_simp) (by go_simp) (fun v' w' => v' = v5 ∧ w' = w5) ⟨_, w5, hr5, rfl, rfl⟩ ?_
            rintro v' w' ⟨e1, e2⟩
            obtain rfl : w5 = w' := e2.symm
            obtain rfl : v5 = v' := e1.symm
            refine ⟨hS, ?_⟩
            simp only [Act.put, List.getElem_toArray, List.getElem_cons_zero, List.getElem_cons_succ, List.setIfInBounds_toArray, List.set_cons_zero, List.set_cons_succ]
            clear hr5
            obtain ⟨v6, w6, hr6, hO6, hB6⟩ := put_sps w5 w7.heap.size v5 ([] ++ C') C c cc hO5 (HDX6.out.below hw5).hC hw5.size (by have := HSZa.out; simp only [List.nil_append]; omega)
            have hw6 := hw5.trans hB6
            have hS := (hS0b).below hw6
            rw [← HNC.out] at hr6
            rw [List.nil_append] at hO6
            obtain ⟨a6, c6, rfl⟩ := hO6.slice
            refine HL_one2 (i := 33) rfl (by omega) (by kernel_rfl) (by kernel_rfl) ?_
            refine wp_append (.tmp 101) (.tmp 103) 24 24 (by kernel_rfl) v5 (.slice c nc cc) (by go_simp) (by go_simp) (fun v' w' => v' = .slice a6 (C' ++ C).length c6 ∧ w' = w6) ⟨_, w6, hr6, rfl, rfl⟩ ?_
            rintro v' w' ⟨e1, e2⟩
            obtain rfl : w6 = w' := e2.symm
            subst e1
            refine ⟨hS, ?_⟩
            simp only [Act.put, List.getElem_toArray, List.getElem_cons_zero, List.getElem_cons_succ, List.setIfInBounds_toArray, List.set_cons_zero, List.set_cons_succ]
            have hC := same_any xC2 a6 cC2 c6 (C' ++ C) w6 (by have := HSZa.out; rw [List.length_append]; omega) (HP26.out.below hw6).hC hO6.sps
            rw [← HLC2.out] at hC ⊢
            clear hr6
            refine HL_one2 (i := 34) rfl (by omega) (by kernel_rfl) (by kernel_rfl) ?_
            refine wp_enter (f := 9) (args := #[.slice xC2 lC2 cC2, .slice a6 lC2 c6]) (by go_simp) (hC.mono ?_)
            clear hC
            rintro e w8 ⟨rfl, hb⟩
            have hw7 := hw6.trans (hb.mono hw6.size)
            have hS := (hS0b).below hw7
            have HB4 := Lib.hid (HB3.out.trans (hw7.mono HB3.out.size))
            clear hb hw5 hw6 hw7 hO5 hO6 hB5 hB6 hown bxe hS0b HDX6 HDX6' HP26 HB3
            refine ⟨_, rfl, hS, ?_⟩
            simp only [Act.put, List.getElem_toArray, List.getElem_cons_zero, List.getElem_cons_succ, List.setIfInBounds_toArray, List.set_cons_zero, List.set_cons_succ]
            refine HL_take (i := 35) (.bool true) (by kernel_rfl) rfl (by omega) (by kernel_rfl) (by kernel_rfl) (by kernel_rfl) (fun _ _ _ h => h) (.inl ⟨by kernel_rfl, fun w' hw' => by go_simp⟩) hS ?_
            simp only [Act.put, List.getElem_toArray, List.getElem_cons_zero, List.getElem_cons_succ, List.setIfInBounds_toArray, List.set_cons_zero, List.set_cons_succ]
            refine HL_take (i := 36) (.bool true) (by kernel_rfl) rfl (by omega) (by kernel_rfl) (by kernel_rfl) (by kernel_rfl) (fun _ _ _ h => h) (.inl ⟨by kernel_rfl, fun w' hw' => by go_simp⟩) hS ?_
            simp only [Act.put, List.getElem_toArray, List.getElem_cons_zero, List.getElem_cons_succ, List.setIfInBounds_toArray, List.set_cons_zero, List.set_cons_succ]
            refine HL_one2 (i := 37) rfl (by omega) (by kernel_rfl) (by kernel_rfl) ?_
            refine wp_enter (f := 4) (args := #[]) (by go_simp) ((known_any w8).mono ?_)
            rintro e w9 ⟨rfl, hb⟩
            have hS := hS.below hb
            have HB5 := Lib.hid (HB4.out.trans (hb.mono HB4.out.size))
            clear hb HB4
            refine ⟨_, rfl, hS, ?_⟩
            simp only [Act.put, List.getElem_toArray, List.getElem_cons_zero, List.getElem_cons_succ, List.setIfInBounds_toArray, List.set_cons_zero, List.set_cons_succ]
            refine HL_take (i := 38) (.bool true) (by kernel_rfl) rfl (by omega) (by kernel_rfl) (by kernel_rfl) (by kernel_rfl) (fun _ _ _ h => h) (.inl ⟨by kernel_rfl, fun w' hw' => by go_simp⟩) hS ?_
            simp only [Act.put, List.getElem_toArray, List.getElem_cons_zero, List.getElem_cons_succ, List.setIfInBounds_toArray, List.set_cons_zero, List.set_cons_succ]
            refine ⟨by kernel_rfl, ?_⟩
            simp only [List.drop_succ_cons, List.drop_zero]
            clear hS
            go_wp2_with fail
            go_ret
            exact ⟨rfl, HB5.out⟩
      · go_wp2_with fail
        refine (known_any _).mono ?_
        rintro e w7 ⟨rfl, hb7⟩
        go_wp2_with fail
        go_ret
        exact ⟨rfl, HBB.out.trans (hb7.mono HBB.out.size)⟩
      · go_wp2_with fail
        refine (known_any _).mono ?_
        rintro e w7 ⟨rfl, hb7⟩
        go_wp2_with fail
        go_ret
        exact ⟨rfl, HBB.out.trans (hb7.mono HBB.out.size)⟩
    · go_wp2_with fail
      refine (known_any _).mono ?_
      rintro e w7 ⟨rfl, hb7⟩
      go_wp2_with fail
      go_ret
      exact ⟨rfl, HBB.out.trans (hb7.mono HBB.out.size)⟩
    · go_wp2_with fail
      refine (known_any _).mono ?_
      rintro e w7 ⟨rfl, hb7⟩
      go_wp2_with fail
      go_ret
      exact ⟨rfl, HBB.out.trans (hb7.mono HBB.out.size)⟩
  · have d0 : decide ((100 : Int) < (nm : Nat)) = true := decide_eq_true (by omega)
    have d1 : decide (100 < nm) = true := decide_eq_true (by omega)
    have x1 := hx1.c1
    have HB2 := Lib.hid B2
    clear hx1 hx2 hdw hdw' hp2 hW hM hA hB hC hA' hB' hC' hbig hm PR PR' hY1 hY2 hz hs1 b1 b2 B2 hD hD' hP hnw hnm hna hnb hnc hna' hnb' hnc'
    go_enter Tryd.func3, Tryd.ntmps3
    go_upto_region 1 with fail
    rw [← HY1.out, ← HY2.out, ← HZ.out]
    clear HY1 HY2
    go_wp2_with fail
    refine (known_any _).mono ?_
    rintro e w7 ⟨rfl, hb7⟩
    go_wp2_with fail
    go_ret
    exact ⟨rfl, HB2.out.trans (hb7.mono HB2.out.size)⟩
end Go.Proofs.YtonbfcpbgkpbaabDoor
end
section
/- What the bound of the second form gives: of a list, of a text. -/
namespace Go.Proofs.YtonbfcpbgkpbaabDoor
theorem bulk_pos {H : Type} (d : DataW H) : 1 ≤ Rows.uptoBulk d := by
  cases d with
  | lit l => cases l <;> simp only [Rows.uptoBulk] <;> omega
  | nil => simp only [Rows.uptoBulk]; omega
  | ptr d => simp only [Rows.uptoBulk]; omega
  | slice e s => simp only [Rows.uptoBulk]; omega
  | agg p => simp only [Rows.uptoBulk]; omega
  | iface t d => simp only [Rows.uptoBulk]; omega
  | map e => simp only [Rows.uptoBulk]; omega
  | held h => simp only [Rows.uptoBulk]; omega
theorem bulk_count {H : Type} (l : List (DataW H)) : l.length ≤ Rows.uptoBulkAll l := by
  induction l with
  | nil => exact Nat.zero_le _
  | cons d r ih => have := bulk_pos d; simp only [Rows.uptoBulkAll, List.length_cons]; omega
theorem bulk_slice {H : Type} (e s : List (DataW H)) : e.length + s.length + 1 ≤ Rows.uptoBulk (.slice e s) := by
  have h1 := bulk_count e
  have h2 := bulk_count s
  simp only [Rows.uptoBulk]; omega
theorem bulk_text {H : Type} (s : ByteArray) : Rows.uptoBulk (DataW.lit (H := H) (.string s.data.toList)) = s.size + 1 := by
  have e : s.data.toList.length = s.size := Array.length_toList
  simp only [Rows.uptoBulk, e]
theorem bulk_bound {H : Type} {l : List (DataW H)} (hk : Rows.uptoSmall H l = true) : Rows.uptoBulkAll l ≤ 1048576 := of_decide_eq_true hk
end Go.Proofs.YtonbfcpbgkpbaabDoor
end
