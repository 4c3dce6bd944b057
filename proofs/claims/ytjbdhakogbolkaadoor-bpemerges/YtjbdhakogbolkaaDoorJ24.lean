import Derived.Test.YtjbdhakogbolkaaDoorJ23
section
/- BpeMerges' walk. -/
namespace Go.Proofs.YtjbdhakogbolkaaDoor
open Go.RowKit Go.Shelf Go.Lib
open Go.Joins Go.Sort
attribute [local go_sem] Oper.semAt_some
set_option linter.unusedVariables false
set_option linter.unusedSimpArgs false
set_option maxRecDepth 100000
def f5 (a : Act) (i : Value × Value × Value × Nat) : Act := { a with tmps := ((((((((a.tmps.setIfInBounds 33 (a.tmps.getD 19 undef)).setIfInBounds 34 (a.tmps.getD 1 undef)).setIfInBounds 35 i.1).setIfInBounds 36 (.tuple #[i.2.1, i.2.2.1])).setIfInBounds 32 (.tuple #[i.2.1, i.2.2.1])).setIfInBounds 37 i.2.1).setIfInBounds 38 i.2.2.1).setIfInBounds 11 (.pointer (some ⟨i.2.2.2, 0, none⟩))).setIfInBounds 10 i.2.1 }
set_option maxHeartbeats 4000000 in
theorem merges_walk (aw am a b c : Option Addr) (cw cm ca cb cc : Nat) (ws : List ByteArray) (ms : List Mg) (A B C : List Sp) (s0 : ByteArray) (stop0 : Int) (w : World) (hwf : MWf ms) (hn : ws.length ≤ 8796093022208 ∧ ms.length ≤ 5864062014805 ∧ A.length ≤ 17592186044416 ∧ B.length ≤ 17592186044416 ∧ C.length ≤ 17592186044416) (hW : WSP w aw ws) (hM : MSP w am ms) (hA : Lst w a ca A) (hB : Lst w b cb B) (hC : Lst w c cc C) (hG : GL w) :
    Calls Tryd.prog 4 #[.agg #[.slice aw ws.length cw, .slice am ms.length cm, .slice a A.length ca, .slice b B.length cb, .slice c C.length cc], .string s0, .int .i64 stop0] w fun e w' => e = .returned (.bool true) ∧ Below w.heap.size w w' := by
  refine (callsIn_wide (n := 9)).1 ?_
  have hD := DBox.new w (.slice aw ws.length cw) (.slice am ms.length cm) (.slice a A.length ca) (.slice b B.length cb) (.slice c C.length cc)
  have hb0 : Below w.heap.size w (((w.alloc (.cells #[.slice aw ws.length cw, .slice am ms.length cm, .slice a A.length ca, .slice b B.length cb, .slice c C.length cc] 30)).alloc (.cells #[.int .i64 stop0] 3)).alloc (.cells #[.bool false] 4)) := (((Below.refl _ w).alloc (Nat.le_refl _) _).alloc (by simp) _).alloc (by simp; omega) _
  have HW : Hid (WSP w aw ws) := hW
  have HM : Hid (MSP w am ms) := hM
  have HA : Hid (Lst w a ca A) := hA
  have HB : Hid (Lst w b cb B) := hB
  have HC : Hid (Lst w c cc C) := hC
  have HG : Hid (GL w) := hG
  have HMI := mergeM_W64 hwf
  clear hW hM hA hB hC hG
  have x0 := cell_alloc_s (cell_alloc_s hD.c0 (.cells #[.int .i64 stop0] 3)) (.cells #[.bool false] 4)
  have x1 := cell_alloc_s (cell_alloc_s hD.c1 (.cells #[.int .i64 stop0] 3)) (.cells #[.bool false] 4)
  have x2 := cell_alloc_s (cell_alloc_s hD.c2 (.cells #[.int .i64 stop0] 3)) (.cells #[.bool false] 4)
  have x3 := cell_alloc_s (cell_alloc_s hD.c3 (.cells #[.int .i64 stop0] 3)) (.cells #[.bool false] 4)
  have x4 := cell_alloc_s (cell_alloc_s hD.c4 (.cells #[.int .i64 stop0] 3)) (.cells #[.bool false] 4)
  have r1 : Boxed (((w.alloc (.cells #[.slice aw ws.length cw, .slice am ms.length cm, .slice a A.length ca, .slice b B.length cb, .slice c C.length cc] 30)).alloc (.cells #[.int .i64 stop0] 3)).alloc (.cells #[.bool false] 4)) (w.heap.size + 1) 3 (.int .i64 stop0) := by
    have := (Boxed.new (w.alloc (.cells #[.slice aw ws.length cw, .slice am ms.length cm, .slice a A.length ca, .slice b B.length cb, .slice c C.length cc] 30)) 3 (.int .i64 stop0)).alloc (.cells #[.bool false] 4)
    rwa [World.size_alloc] at this
  have r2 : Boxed (((w.alloc (.cells #[.slice aw ws.length cw, .slice am ms.length cm, .slice a A.length ca, .slice b B.length cb, .slice c C.length cc] 30)).alloc (.cells #[.int .i64 stop0] 3)).alloc (.cells #[.bool false] 4)) (w.heap.size + 1 + 1) 4 (.bool false) := by
    have := Boxed.new ((w.alloc (.cells #[.slice aw ws.length cw, .slice am ms.length cm, .slice a A.length ca, .slice b B.length cb, .slice c C.length cc] 30)).alloc (.cells #[.int .i64 stop0] 3)) 4 (.bool false)
    rwa [World.size_alloc, World.size_alloc] at this
  refine callsIn_of_wp_marks Tryd.func4 rfl trivial ?_ rfl
  simp only [Tryd.ntmps4, List.size_toArray, List.length_cons, List.length_nil, Nat.reduceAdd, Nat.reduceSub, Array.replicate_succ, Array.replicate_zero, List.push_toArray, List.append_toArray, List.nil_append, List.cons_append]
  gi_wp2_with fail
  obtain ⟨Y, hY⟩ : ∃ Y, Y = ((w.alloc (.cells #[.slice aw ws.length cw, .slice am ms.length cm, .slice a A.length ca, .slice b B.length cb, .slice c C.length cc] 30)).alloc (.cells #[.int .i64 stop0] 3)).alloc (.cells #[.bool false] 4) := ⟨_, rfl⟩
  rw [← hY] at hb0 x0 x1 x2 x3 x4 r1 r2 ⊢
  have hYs : Y.heap.size = w.heap.size + 3 := by rw [hY]; simp
  clear hY hD
  refine ⟨trivial, (callsIn_wide.2 (keepOf_any aw am a b c cw cm ca cb cc ws ms A B C Y hwf (by omega) (HW.out.below hb0) (HM.out.below hb0) (HA.out.below hb0) (HB.out.below hb0) (HC.out.below hb0) (HG.out.below hb0))).mono ?_⟩
  rintro e w1 ⟨p, rfl, hp1, hp2, hb1⟩
  have B1 := hb0.trans (hb1.mono hb0.size)
  have hG1 := HG.out.below B1
  have y0 := (hb1.cell (p := ⟨w.heap.size, 0, none⟩) (by show w.heap.size < _; omega)).trans x0
  have y1 := (hb1.cell (p := ⟨w.heap.size, 1, none⟩) (by show w.heap.size < _; omega)).trans x1
  have y2 := (hb1.cell (p := ⟨w.heap.size, 2, none⟩) (by show w.heap.size < _; omega)).trans x2
  have y3 := (hb1.cell (p := ⟨w.heap.size, 3, none⟩) (by show w.heap.size < _; omega)).trans x3
  have y4 := (hb1.cell (p := ⟨w.heap.size, 4, none⟩) (by show w.heap.size < _; omega)).trans x4
  have r1a := boxed_below_s r1 hb1
  have r2a := boxed_below_s r2 hb1
  have hM1 := HM.out.below B1
  clear HW HM HA HB HC x0 x1 x2 x3 x4 r1 r2
  obtain ⟨z, hz⟩ : ∃ z, z = w.heap.size := ⟨_, rfl⟩
  have HZ : Hid (z = w.heap.size) := hz
  rw [← hz] at y0 y1 y2 y3 y4 r1a r2a hYs ⊢
  cases hU : upB ws ms A B C with
  | false =>
    obtain rfl := hp2 hU
    have f2 := r2a.frozen
    have c2 := r2a.cell
    clear hp1 hp2 hU hb1 hb0 HMI y0 y1 y2 y3 y4 r1a hM1 hz
    gi_wp2_with fail
    refine ⟨trivial, (callsIn_wide.2 (known10_any w1 hG1)).mono ?_⟩
    rintro e w9 ⟨rfl, hb9⟩
    have r9 := boxed_below_s r2a hb9
    have f9 := r9.frozen
    have c9 := r9.cell
    have hB9 := B1.trans (hb9.mono B1.size)
    gi_wp2_with fail
    have c10 := (r9.set (.bool true)).cell
    have hB10 := hB9.setCell (p := ⟨z + 1 + 1, 0, none⟩) (by have := HZ.out; show w.heap.size ≤ z + 1 + 1; omega) (.bool true)
    exact ⟨.bool true, by simp [results, Tryd.results4, go_sem, c10], rfl, hB10⟩
  | true =>
    obtain ⟨g, rfl, hMd⟩ := hp1 hU
    have hk := upB_ok hU
    have HK : Hid (MOk ws ms A B C) := hk
    clear hp1 hp2 hU hb0 hk
    obtain ⟨s, hs⟩ : ∃ s, s = fewF s0 120 := ⟨_, rfl⟩
    have hsz : s.size ≤ 120 := by rw [hs]; exact fewF_size _ _
    have HF := few10_any s0 120 w1
    rw [← hs] at HF
    rw [show ((120 : Nat) : Int) = 120 from rfl] at HF
    clear hs
    have HMI' : Hid (∀ l r k i, mergeM ms l r = some (k, i) → W64 i) := HMI
    clear HMI hz
    gi_wp2_with fail
    refine ⟨trivial, (callsIn_wide.2 HF).mono ?_⟩
    rintro e w2 ⟨rfl, he⟩
    obtain rfl := he.symm
    clear HF
    gi_wp2_with fail
    have hzw1 : z + 3 ≤ w1.heap.size := by have := hb1.size; omega
    refine wpIn_named f5 (R5 ms s w1) (wpIn_wide.2 ?_) ?_
    · have hS : ∀ W', Below w1.heap.size w1 W' → W'.cell? ⟨z, 0, none⟩ = some (.slice aw ws.length cw) ∧ W'.cell? ⟨z, 1, none⟩ = some (.slice am ms.length cm) ∧ W'.cell? ⟨z, 2, none⟩ = some (.slice a A.length ca) ∧ W'.cell? ⟨z, 3, none⟩ = some (.slice b B.length cb) ∧ W'.cell? ⟨z, 4, none⟩ = some (.slice c C.length cc) := fun W' hb =>
        ⟨(hb.cell (p := ⟨z, 0, none⟩) (by show z < _; omega)).trans y0, (hb.cell (p := ⟨z, 1, none⟩) (by show z < _; omega)).trans y1, (hb.cell (p := ⟨z, 2, none⟩) (by show z < _; omega)).trans y2, (hb.cell (p := ⟨z, 3, none⟩) (by show z < _; omega)).trans y3, (hb.cell (p := ⟨z, 4, none⟩) (by show z < _; omega)).trans y4⟩
      have B0 : Below w1.heap.size w1 w1.drew := (Below.refl _ w1).drew
      obtain ⟨u0, hu0⟩ : ∃ u0, u0 = w1.drew := ⟨_, rfl⟩
      refine wp_region_heldtail 9 (fun w' : World => w'.cell? ⟨z, 0, none⟩ = some (.slice aw ws.length cw) ∧ w'.cell? ⟨z, 1, none⟩ = some (.slice am ms.length cm) ∧ w'.cell? ⟨z, 2, none⟩ = some (.slice a A.length ca) ∧ w'.cell? ⟨z, 3, none⟩ = some (.slice b B.length cb) ∧ w'.cell? ⟨z, 4, none⟩ = some (.slice c C.length cc)) (by kernel_rfl) (by kernel_rfl) ?_
      rw [← hu0] at B0 ⊢
      clear hu0
      refine HL_take (i := 0) (.agg #[.slice aw ws.length cw, .slice am ms.length cm, .slice a A.length ca, .slice b B.length cb, .slice c C.length cc]) (by kernel_rfl) rfl (by omega) (by kernel_rfl) (by kernel_rfl) (by kernel_rfl) (fun _ _ _ h => QN.no h) (.inl ⟨by kernel_rfl, fun w' hw' => by obtain ⟨q0, q1, q2, q3, q4⟩ := hw'; go_simp⟩) (hS _ B0) ?_
      simp only [Act.put, List.getElem_toArray, List.getElem_cons_zero, List.getElem_cons_succ, List.setIfInBounds_toArray, List.set_cons_zero, List.set_cons_succ]
      refine HL_take (i := 1) (.string s) (by kernel_rfl) rfl (by omega) (by kernel_rfl) (by kernel_rfl) (by kernel_rfl) (fun _ _ _ h => QN.no h) (.inl ⟨by kernel_rfl, fun w' hw' => by obtain ⟨q0, q1, q2, q3, q4⟩ := hw'; go_simp⟩) (hS _ B0) ?_
      simp only [Act.put, List.getElem_toArray, List.getElem_cons_zero, List.getElem_cons_succ, List.setIfInBounds_toArray, List.set_cons_zero, List.set_cons_succ]
      refine HL_two (i := 2) (j := 7) rfl rfl (by omega) (by omega) (by kernel_rfl) rfl rfl ?_ ?_
      · refine wp_enter (f := 18) (args := #[.string s]) (by simp [execOp, resolve]; rfl) ?_
        refine (refBytes_any s u0 (by omega)).mono ?_
        rintro e u1 ⟨vb, rfl, hNb, hbu1⟩
        have Bu1 : Below w1.heap.size w1 u1 := B0.trans (hbu1.mono B0.size)
        obtain ⟨ia, ic, rfl, hin⟩ := hNb.ins
        refine ⟨_, rfl, hS _ Bu1, ?_⟩
        simp only [Act.put, List.getElem_toArray, List.getElem_cons_zero, List.getElem_cons_succ, List.setIfInBounds_toArray, List.set_cons_zero, List.set_cons_succ]
        refine HL_two (i := 3) (j := 7) rfl rfl (by omega) (by omega) (by kernel_rfl) rfl rfl ?_ ?_
        · refine wp_enter (f := 17) (args := #[.agg #[.slice aw ws.length cw, .slice am ms.length cm, .slice a A.length ca, .slice b B.length cb, .slice c C.length cc], .slice ia (byL s).length ic]) (by simp [execOp, resolve]; rfl) ?_
          refine (refJoined_any aw am a b c ws.length cw cm A.length ca B.length cb C.length cc ms ia ic (byL s) u1 (by have := hn.2.1; omega) (by rw [byL_length]; omega) (hM1.below Bu1) hin).mono ?_
          rintro e u2 ⟨v, sv, st, l, rfl, hNv, hNs, hJR, hbu2⟩
          have Bu2 : Below w1.heap.size w1 u2 := Bu1.trans (hbu2.mono Bu1.size)
          have hNv := hNv.low Bu1.size
          have hNs := hNs.low Bu1.size
          obtain ⟨sa, sn, sq, rfl⟩ : ∃ sa sn sq, sv = .slice sa sn sq := by rcases ownsRow_forms hNs with ⟨rfl, _⟩ | ⟨b, q, rfl⟩ <;> exact ⟨_, _, _, rfl⟩
          refine ⟨_, rfl, hS _ Bu2, ?_⟩
          simp only [Act.put, List.getElem_toArray, List.getElem_cons_zero, List.getElem_cons_succ, List.setIfInBounds_toArray, List.set_cons_zero, List.set_cons_succ]
          refine HL_take (i := 4) (.tuple #[v, .slice sa sn sq]) (by kernel_rfl) rfl (by omega) (by kernel_rfl) (by kernel_rfl) (by kernel_rfl) (fun _ _ _ h => QN.no h) (.inl ⟨by kernel_rfl, fun w' hw' => by obtain ⟨q0, q1, q2, q3, q4⟩ := hw'; go_simp⟩) (hS _ Bu2) ?_
          simp only [Act.put, List.getElem_toArray, List.getElem_cons_zero, List.getElem_cons_succ, List.setIfInBounds_toArray, List.set_cons_zero, List.set_cons_succ]
          refine HL_take (i := 5) (v) (by kernel_rfl) rfl (by omega) (by kernel_rfl) (by kernel_rfl) (by kernel_rfl) (fun _ _ _ h => QN.no h) (.inl ⟨by kernel_rfl, fun w' hw' => by obtain ⟨q0, q1, q2, q3, q4⟩ := hw'; go_simp⟩) (hS _ Bu2) ?_
          simp only [Act.put, List.getElem_toArray, List.getElem_cons_zero, List.getElem_cons_succ, List.setIfInBounds_toArray, List.set_cons_zero, List.set_cons_succ]
          refine HL_take (i := 6) (.slice sa sn sq) (by kernel_rfl) rfl (by omega) (by kernel_rfl) (by kernel_rfl) (by kernel_rfl) (fun _ _ _ h => QN.no h) (.inl ⟨by kernel_rfl, fun w' hw' => by obtain ⟨q0, q1, q2, q3, q4⟩ := hw'; go_simp⟩) (hS _ Bu2) ?_
          simp only [Act.put, List.getElem_toArray, List.getElem_cons_zero, List.getElem_cons_succ, List.setIfInBounds_toArray, List.set_cons_zero, List.set_cons_succ]
          refine HL_one (i := 7) rfl (by omega) (by kernel_rfl) rfl ?_
          refine wp_value (v := .pointer (some ⟨u2.heap.size, 0, none⟩)) (w' := u2.alloc (.cells #[.slice none 0 0] 50)) (by go_simp) ?_
          obtain ⟨u3, hu3⟩ : ∃ u3, u3 = u2.alloc (.cells #[.slice none 0 0] 50) := ⟨_, rfl⟩
          have hbu3 : Below u2.heap.size u2 u3 := by rw [hu3]; exact (Below.refl _ u2).alloc (Nat.le_refl _) _
          have hx : Boxed u3 u2.heap.size 50 (.slice none 0 0) := by rw [hu3]; exact Boxed.new u2 50 _
          have Bu3 : Below w1.heap.size w1 u3 := Bu2.trans (hbu3.mono Bu2.size)
          rw [← hu3]
          clear hu3
          obtain ⟨sb, hsb⟩ : ∃ sb, sb = u2.heap.size := ⟨_, rfl⟩
          have hs1b : w1.heap.size ≤ sb := by rw [hsb]; exact Bu2.size
          rw [← hsb] at hx ⊢
          clear hsb
          refine ⟨hS _ Bu3, ?_⟩
          simp only [Act.put, List.getElem_toArray, List.getElem_cons_zero, List.getElem_cons_succ, List.setIfInBounds_toArray, List.set_cons_zero, List.set_cons_succ]
          have hNv := hNv.below hbu3
          have hNs := hNs.below hbu3
          refine HL_take (i := 8) (v) (by kernel_rfl) rfl (by omega) (by kernel_rfl) (by kernel_rfl) (by kernel_rfl) (fun _ _ _ h => QN.no h) (.inl ⟨by kernel_rfl, fun w' hw' => by obtain ⟨q0, q1, q2, q3, q4⟩ := hw'; go_simp⟩) (hS _ Bu3) ?_
          simp only [Act.put, List.getElem_toArray, List.getElem_cons_zero, List.getElem_cons_succ, List.setIfInBounds_toArray, List.set_cons_zero, List.set_cons_succ]
          refine ⟨by kernel_rfl, ?_⟩
          simp only [List.drop_succ_cons, List.drop_zero]
          have cx := hx.cell
          have fx := hx.frozen
          go_wp2_with fail
          refine ⟨rfl, (.slice ia (byL s).length ic, v, .slice sa sn sq, sb), ?_, R5.store hNv hNs hJR hx hs1b Bu3⟩
          simp only [f5, List.setIfInBounds_toArray, List.set_cons_succ, List.set_cons_zero, Array.getD_eq_getD_getElem?, List.getElem?_toArray, List.getElem?_cons_succ, List.getElem?_cons_zero, Option.getD_some]
        · refine wp_value (v := .pointer (some ⟨u1.heap.size, 0, none⟩)) (w' := u1.alloc (.cells #[.slice none 0 0] 50)) (by go_simp) ?_
          obtain ⟨u2, hu2⟩ : ∃ u2, u2 = u1.alloc (.cells #[.slice none 0 0] 50) := ⟨_, rfl⟩
          have hbu2 : Below u1.heap.size u1 u2 := by rw [hu2]; exact (Below.refl _ u1).alloc (Nat.le_refl _) _
          have hx : Boxed u2 u1.heap.size 50 (.slice none 0 0) := by rw [hu2]; exact Boxed.new u1 50 _
          have Bu2 : Below w1.heap.size w1 u2 := Bu1.trans (hbu2.mono Bu1.size)
          rw [← hu2]
          clear hu2
          obtain ⟨sb, hsb⟩ : ∃ sb, sb = u1.heap.size := ⟨_, rfl⟩
          have hs1b : w1.heap.size ≤ sb := by rw [hsb]; exact Bu1.size
          rw [← hsb] at hx ⊢
          clear hsb
          refine ⟨hS _ Bu2, ?_⟩
          simp only [Act.put, List.getElem_toArray, List.getElem_cons_zero, List.getElem_cons_succ, List.setIfInBounds_toArray, List.set_cons_zero, List.set_cons_succ]
          refine HL_one (i := 3) rfl (by omega) (by kernel_rfl) rfl ?_
          refine wp_enter (f := 17) (args := #[.agg #[.slice aw ws.length cw, .slice am ms.length cm, .slice a A.length ca, .slice b B.length cb, .slice c C.length cc], .slice ia (byL s).length ic]) (by simp [execOp, resolve]; rfl) ?_
          refine (refJoined_any aw am a b c ws.length cw cm A.length ca B.length cb C.length cc ms ia ic (byL s) u2 (by have := hn.2.1; omega) (by rw [byL_length]; omega) (hM1.below Bu2) (INS.below' hin hbu2)).mono ?_
          rintro e u3 ⟨v, sv, st, l, rfl, hNv, hNs, hJR, hbu3⟩
          have Bu3 : Below w1.heap.size w1 u3 := Bu2.trans (hbu3.mono Bu2.size)
          have hNv := hNv.low Bu2.size
          have hNs := hNs.low Bu2.size
          obtain ⟨sa, sn, sq, rfl⟩ : ∃ sa sn sq, sv = .slice sa sn sq := by rcases ownsRow_forms hNs with ⟨rfl, _⟩ | ⟨b, q, rfl⟩ <;> exact ⟨_, _, _, rfl⟩
          refine ⟨_, rfl, hS _ Bu3, ?_⟩
          simp only [Act.put, List.getElem_toArray, List.getElem_cons_zero, List.getElem_cons_succ, List.setIfInBounds_toArray, List.set_cons_zero, List.set_cons_succ]
          have hx := boxed_below_s hx hbu3
          refine HL_take (i := 4) (.tuple #[v, .slice sa sn sq]) (by kernel_rfl) rfl (by omega) (by kernel_rfl) (by kernel_rfl) (by kernel_rfl) (fun _ _ _ h => QN.no h) (.inl ⟨by kernel_rfl, fun w' hw' => by obtain ⟨q0, q1, q2, q3, q4⟩ := hw'; go_simp⟩) (hS _ Bu3) ?_
          simp only [Act.put, List.getElem_toArray, List.getElem_cons_zero, List.getElem_cons_succ, List.setIfInBounds_toArray, List.set_cons_zero, List.set_cons_succ]
          refine HL_take (i := 5) (v) (by kernel_rfl) rfl (by omega) (by kernel_rfl) (by kernel_rfl) (by kernel_rfl) (fun _ _ _ h => QN.no h) (.inl ⟨by kernel_rfl, fun w' hw' => by obtain ⟨q0, q1, q2, q3, q4⟩ := hw'; go_simp⟩) (hS _ Bu3) ?_
          simp only [Act.put, List.getElem_toArray, List.getElem_cons_zero, List.getElem_cons_succ, List.setIfInBounds_toArray, List.set_cons_zero, List.set_cons_succ]
          refine HL_take (i := 6) (.slice sa sn sq) (by kernel_rfl) rfl (by omega) (by kernel_rfl) (by kernel_rfl) (by kernel_rfl) (fun _ _ _ h => QN.no h) (.inl ⟨by kernel_rfl, fun w' hw' => by obtain ⟨q0, q1, q2, q3, q4⟩ := hw'; go_simp⟩) (hS _ Bu3) ?_
          simp only [Act.put, List.getElem_toArray, List.getElem_cons_zero, List.getElem_cons_succ, List.setIfInBounds_toArray, List.set_cons_zero, List.set_cons_succ]
          refine HL_take (i := 8) (v) (by kernel_rfl) rfl (by omega) (by kernel_rfl) (by kernel_rfl) (by kernel_rfl) (fun _ _ _ h => QN.no h) (.inl ⟨by kernel_rfl, fun w' hw' => by obtain ⟨q0, q1, q2, q3, q4⟩ := hw'; go_simp⟩) (hS _ Bu3) ?_
          simp only [Act.put, List.getElem_toArray, List.getElem_cons_zero, List.getElem_cons_succ, List.setIfInBounds_toArray, List.set_cons_zero, List.set_cons_succ]
          refine ⟨by kernel_rfl, ?_⟩
          simp only [List.drop_succ_cons, List.drop_zero]
          have cx := hx.cell
          have fx := hx.frozen
          go_wp2_with fail
          refine ⟨rfl, (.slice ia (byL s).length ic, v, .slice sa sn sq, sb), ?_, R5.store hNv hNs hJR hx hs1b Bu3⟩
          simp only [f5, List.setIfInBounds_toArray, List.set_cons_succ, List.set_cons_zero, Array.getD_eq_getD_getElem?, List.getElem?_toArray, List.getElem?_cons_succ, List.getElem?_cons_zero, Option.getD_some]
      · refine wp_value (v := .pointer (some ⟨u0.heap.size, 0, none⟩)) (w' := u0.alloc (.cells #[.slice none 0 0] 50)) (by go_simp) ?_
        obtain ⟨u1, hu1⟩ : ∃ u1, u1 = u0.alloc (.cells #[.slice none 0 0] 50) := ⟨_, rfl⟩
        have hbu1 : Below u0.heap.size u0 u1 := by rw [hu1]; exact (Below.refl _ u0).alloc (Nat.le_refl _) _
        have hx : Boxed u1 u0.heap.size 50 (.slice none 0 0) := by rw [hu1]; exact Boxed.new u0 50 _
        have Bu1 : Below w1.heap.size w1 u1 := B0.trans (hbu1.mono B0.size)
        rw [← hu1]
        clear hu1
        obtain ⟨sb, hsb⟩ : ∃ sb, sb = u0.heap.size := ⟨_, rfl⟩
        have hs1b : w1.heap.size ≤ sb := by rw [hsb]; exact B0.size
        rw [← hsb] at hx ⊢
        clear hsb
        refine ⟨hS _ Bu1, ?_⟩
        simp only [Act.put, List.getElem_toArray, List.getElem_cons_zero, List.getElem_cons_succ, List.setIfInBounds_toArray, List.set_cons_zero, List.set_cons_succ]
        refine HL_one (i := 2) rfl (by omega) (by kernel_rfl) rfl ?_
        refine wp_enter (f := 18) (args := #[.string s]) (by simp [execOp, resolve]; rfl) ?_
        refine (refBytes_any s u1 (by omega)).mono ?_
        rintro e u2 ⟨vb, rfl, hNb, hbu2⟩
        have Bu2 : Below w1.heap.size w1 u2 := Bu1.trans (hbu2.mono Bu1.size)
        obtain ⟨ia, ic, rfl, hin⟩ := hNb.ins
        refine ⟨_, rfl, hS _ Bu2, ?_⟩
        simp only [Act.put, List.getElem_toArray, List.getElem_cons_zero, List.getElem_cons_succ, List.setIfInBounds_toArray, List.set_cons_zero, List.set_cons_succ]
        have hx := boxed_below_s hx hbu2
        refine HL_one (i := 3) rfl (by omega) (by kernel_rfl) rfl ?_
        refine wp_enter (f := 17) (args := #[.agg #[.slice aw ws.length cw, .slice am ms.length cm, .slice a A.length ca, .slice b B.length cb, .slice c C.length cc], .slice ia (byL s).length ic]) (by simp [execOp, resolve]; rfl) ?_
        refine (refJoined_any aw am a b c ws.length cw cm A.length ca B.length cb C.length cc ms ia ic (byL s) u2 (by have := hn.2.1; omega) (by rw [byL_length]; omega) (hM1.below Bu2) hin).mono ?_
        rintro e u3 ⟨v, sv, st, l, rfl, hNv, hNs, hJR, hbu3⟩
        have Bu3 : Below w1.heap.size w1 u3 := Bu2.trans (hbu3.mono Bu2.size)
        have hNv := hNv.low Bu2.size
        have hNs := hNs.low Bu2.size
        obtain ⟨sa, sn, sq, rfl⟩ : ∃ sa sn sq, sv = .slice sa sn sq := by rcases ownsRow_forms hNs with ⟨rfl, _⟩ | ⟨b, q, rfl⟩ <;> exact ⟨_, _, _, rfl⟩
        refine ⟨_, rfl, hS _ Bu3, ?_⟩
        simp only [Act.put, List.getElem_toArray, List.getElem_cons_zero, List.getElem_cons_succ, List.setIfInBounds_toArray, List.set_cons_zero, List.set_cons_succ]
        have hx := boxed_below_s hx hbu3
        refine HL_take (i := 4) (.tuple #[v, .slice sa sn sq]) (by kernel_rfl) rfl (by omega) (by kernel_rfl) (by kernel_rfl) (by kernel_rfl) (fun _ _ _ h => QN.no h) (.inl ⟨by kernel_rfl, fun w' hw' => by obtain ⟨q0, q1, q2, q3, q4⟩ := hw'; go_simp⟩) (hS _ Bu3) ?_
        simp only [Act.put, List.getElem_toArray, List.getElem_cons_zero, List.getElem_cons_succ, List.setIfInBounds_toArray, List.set_cons_zero, List.set_cons_succ]
        refine HL_take (i := 5) (v) (by kernel_rfl) rfl (by omega) (by kernel_rfl) (by kernel_rfl) (by kernel_rfl) (fun _ _ _ h => QN.no h) (.inl ⟨by kernel_rfl, fun w' hw' => by obtain ⟨q0, q1, q2, q3, q4⟩ := hw'; go_simp⟩) (hS _ Bu3) ?_
        simp only [Act.put, List.getElem_toArray, List.getElem_cons_zero, List.getElem_cons_succ, List.setIfInBounds_toArray, List.set_cons_zero, List.set_cons_succ]
        refine HL_take (i := 6) (.slice sa sn sq) (by kernel_rfl) rfl (by omega) (by kernel_rfl) (by kernel_rfl) (by kernel_rfl) (fun _ _ _ h => QN.no h) (.inl ⟨by kernel_rfl, fun w' hw' => by obtain ⟨q0, q1, q2, q3, q4⟩ := hw'; go_simp⟩) (hS _ Bu3) ?_
        simp only [Act.put, List.getElem_toArray, List.getElem_cons_zero, List.getElem_cons_succ, List.setIfInBounds_toArray, List.set_cons_zero, List.set_cons_succ]
        refine HL_take (i := 8) (v) (by kernel_rfl) rfl (by omega) (by kernel_rfl) (by kernel_rfl) (by kernel_rfl) (fun _ _ _ h => QN.no h) (.inl ⟨by kernel_rfl, fun w' hw' => by obtain ⟨q0, q1, q2, q3, q4⟩ := hw'; go_simp⟩) (hS _ Bu3) ?_
        simp only [Act.put, List.getElem_toArray, List.getElem_cons_zero, List.getElem_cons_succ, List.setIfInBounds_toArray, List.set_cons_zero, List.set_cons_succ]
        refine ⟨by kernel_rfl, ?_⟩
        simp only [List.drop_succ_cons, List.drop_zero]
        have cx := hx.cell
        have fx := hx.frozen
        go_wp2_with fail
        refine ⟨rfl, (.slice ia (byL s).length ic, v, .slice sa sn sq, sb), ?_, R5.store hNv hNs hJR hx hs1b Bu3⟩
        simp only [f5, List.setIfInBounds_toArray, List.set_cons_succ, List.set_cons_zero, Array.getD_eq_getD_getElem?, List.getElem?_toArray, List.getElem?_cons_succ, List.getElem?_cons_zero, Option.getD_some]
    · rintro ⟨vb, v, sv, sb⟩ W ⟨l, st, hNv, hNs, hJR, hx, hs1b, hBW⟩
      simp only [f5, List.setIfInBounds_toArray, List.set_cons_succ, List.set_cons_zero]
      simp only [Array.getD_eq_getD_getElem?, List.getElem?_toArray, List.getElem?_cons_succ, List.getElem?_cons_zero, Option.getD_some]
      have hnf : ∀ (wx : World) (lb : Array Value), (binOp BinOp.eql 41 (.func (.func 33) #[] lb) .nilFunc).run Tryd.prog wx = .ok (.bool false) wx := fun wx lb => by rfl
      have hMW := hMd.below hBW
      have r1b := boxed_below_s r1a hBW
      have r2b := boxed_below_s r2a hBW
      obtain ⟨ia, ic, rfl, hin⟩ := hNv.ins
      have hlen := hJR.len
      rw [byL_length] at hlen
      clear hM1 y0 y1 y2 y3 y4 r1a r2a hNv
      have HMe := bmerge_any g _ s ws ms A B C W (by omega) HMI'.out hMW
      gi_wp2_with fail
      refine ⟨trivial, (callsIn_wide.2 HMe).mono ?_⟩
      rintro e w6 ⟨v6, l6, st6, rfl, hN6, hJ6, hb6, -⟩
      obtain ⟨rfl, rfl⟩ := hJR.uniq hJ6
      obtain ⟨ia6, ic6, rfl, hin6⟩ := hN6.ins
      have hin := INS.below' hin hb6
      have hNs6 := hNs.below hb6
      have hx6 := boxed_below_s hx hb6
      have r1c := boxed_below_s r1b hb6
      have r2c := boxed_below_s r2b hb6
      have hM6 := hMW.below hb6
      have hB6 := hBW.trans (hb6.mono hBW.size)
      clear HMe hN6 hJ6 hNs hx r1b r2b hMW hBW
      gi_wp2_with fail
      refine ⟨trivial, (steps_in _ _ s w6).mono ?_⟩
      rintro e w7 ⟨rfl, hw7⟩
      have hb7 : Below w6.heap.size w6 w7 := by rw [hw7]; exact ((Below.refl _ w6).alloc (Nat.le_refl _) _).alloc (by simp) _
      have hBm : Boxed w7 w6.heap.size 31 (.pointer (some ⟨g, 0, none⟩)) := by rw [hw7]; exact (Boxed.new w6 31 _).alloc _
      have hBs : Boxed w7 (w6.heap.size + 1) 9 (.string s) := by
        have := Boxed.new (w6.alloc (.cells #[.pointer (some ⟨g, 0, none⟩)] 31)) 9 (.string s)
        rw [World.size_alloc] at this
        rw [hw7]; exact this
      clear hw7
      obtain ⟨Bm, hBmd⟩ : ∃ Bm, Bm = w6.heap.size := ⟨_, rfl⟩
      have hs6 : w1.heap.size ≤ Bm := by rw [hBmd]; exact hB6.size
      rw [← hBmd] at hBm hBs ⊢
      have hin7 := INS.below' hin hb7
      have hin67 := INS.below' (INS.below' hin6 (Below.refl _ _)) hb7
      have hNs7 := hNs6.below hb7
      have hx7 := boxed_below_s hx6 hb7
      have r1d := boxed_below_s r1c hb7
      have r2d := boxed_below_s r2c hb7
      have hM7 := hM6.below hb7
      have hB7 := hB6.trans (hb7.mono hB6.size)
      clear hBmd hin hin6 hNs6 hx6 r1c r2c hM6 hB6
      have HSa := sameN_any ia6 ia ic6 ic l w7 (by omega) hin67 hin7
      gi_wp2_with fail
      refine ⟨trivial, (callsIn_wide.2 HSa).mono ?_⟩
      rintro e w8 ⟨rfl, hb8⟩
      have hBm := boxed_below_s hBm hb8
      have hBs := boxed_below_s hBs hb8
      have hNs8 := hNs7.below hb8
      have hx8 := boxed_below_s hx7 hb8
      have r1e := boxed_below_s r1d hb8
      have r2e := boxed_below_s r2d hb8
      have hM8 := hM7.below hb8
      have hB8 := hB7.trans (hb8.mono hB7.size)
      have HWi := CH.within_any stop0 0 9 (Nat.zero_le _) (by omega) w8
      rw [show ((0 : Nat) : Int) = 0 from rfl, show ((9 : Nat) : Int) = 9 from rfl] at HWi
      have c1 := r1e.cell
      have f1 := r1e.frozen
      clear HSa hin7 hin67 hNs7 hx7 r1d r2d hM7 hB7
      gi_wp2_with fail
      refine ⟨trivial, (callsIn_wide.2 HWi).mono ?_⟩
      rintro e w9 ⟨k0, -, hk0, rfl, he⟩
      obtain rfl := he.symm
      gi_wp2_with fail
      obtain ⟨wM, hwM⟩ : ∃ wM, wM = w8.setCell ⟨z + 1, 0, none⟩ (.int .i64 (k0 : Nat)) := ⟨_, rfl⟩
      have hwo : ∀ k, k ≠ z + 1 → wM.heap[k]? = w8.heap[k]? := fun k hk => by rw [hwM]; exact Below.heap_setCell w8 ⟨z + 1, 0, none⟩ _ k hk
      have hsM : wM.heap.size = w8.heap.size := by rw [hwM]; simp
      have HMM : Hid (ModelAt wM Y.heap.size g ws ms A B C) := by
        have := hM8.away (b := z + 1) (o := 0) (by omega) (.int .i64 (k0 : Nat))
        rwa [← hwM] at this
      have hBM : Below w.heap.size w wM := by rw [hwM]; exact (B1.trans (hB8.mono B1.size)).setCell (p := ⟨z + 1, 0, none⟩) (by have := HZ.out; show w.heap.size ≤ z + 1; omega) _
      have hst9 : Boxed wM (z + 1) 3 (.int .i64 (k0 : Nat)) := by rw [hwM]; exact r1e.set _
      have hB8s := hB8.size
      rw [← hwM]
      clear hwM he HWi c1 f1
      have hbT : Below wM.heap.size wM (wM.alloc (.cells #[.int .i64 0] 3)) := (Below.refl _ wM).alloc (Nat.le_refl _) _
      obtain ⟨sa, sq, rfl⟩ := hNs8.shape
      have HT : MT w wM (wM.alloc (.cells #[.int .i64 0] 3)) z sb Bm g k0 wM.heap.size (.slice sa st.length sq) st s 0 [] :=
        ⟨boxed_below_s ((hwo _ (by omega)).trans r2e) hbT, boxed_below_s hst9 hbT, boxed_below_s ((hwo _ (by omega)).trans hx8) hbT, ((hNs8.kept (fun k o hk ho _ => (hwo k (by omega)).trans ho)).low (by omega)).below hbT, boxed_below_s ((hwo _ (by omega)).trans hBm) hbT, boxed_below_s ((hwo _ (by omega)).trans hBs) hbT, Boxed.new wM 3 _, ⟨HZ.out, by omega, Nat.le_refl _⟩, hBM.trans (hbT.mono hBM.size), hbT, fun D hD => by simp at hD⟩
      obtain ⟨Wt, hWt⟩ : ∃ Wt, Wt = wM.alloc (.cells #[.int .i64 0] 3) := ⟨_, rfl⟩
      rw [← hWt] at HT hbT ⊢
      obtain ⟨T0, hT0⟩ : ∃ T, T = wM.heap.size := ⟨_, rfl⟩
      have HT0 : Hid (T0 = wM.heap.size) := hT0
      rw [← hsM, ← hT0]
      rw [← hT0] at HT
      clear hWt hT0 hwo hsM r1e r2e hM8 hB8 hBM hst9 hx8 hNs8 hbT
      refine wpIn_loop_rounds 3 ?_
      rw [roundsIn_succ]
      have cT := HT.turn.cell
      gi_wp2_with fail
      have hbV : Below Wt.heap.size Wt (Wt.alloc (.cells #[.int .i64 0] 3)) := (Below.refl _ Wt).alloc (Nat.le_refl _) _
      have n0 : Boxed (Wt.alloc (.cells #[.int .i64 0] 3)) Wt.heap.size 3 (.int .i64 0) := Boxed.new Wt 3 _
      have sV : (Wt.alloc (.cells #[.int .i64 0] 3)).heap.size = Wt.heap.size + 1 := by simp
      have HVa := HT.below hbV
      obtain ⟨Va, hVa⟩ : ∃ V, V = Wt.alloc (.cells #[.int .i64 0] 3) := ⟨_, rfl⟩
      rw [← hVa] at hbV n0 sV HVa ⊢
      obtain ⟨Ba, hBa⟩ : ∃ B, B = Wt.heap.size := ⟨_, rfl⟩
      have HBa : Hid (Ba = Wt.heap.size) := hBa
      rw [← hBa] at n0 sV hbV ⊢
      clear hVa cT
      have zBa : z + 3 ≤ Ba ∧ wM.heap.size ≤ Ba ∧ w.heap.size ≤ Ba := by have h1 := HT.belM.size; have h2 := HT.low; have h3 := HT.bel.size; rw [hBa]; omega
      have mBa : ∀ E ∈ [], E < Ba := fun E hE => by rw [hBa]; exact (Array.getElem?_eq_some_iff.1 (HT.mks E hE).2).1
      clear hBa
      refine mono_named (fun D e U => Va.heap.size ≤ D ∧ U.heap[D]? = some (.deferred (some [])) ∧ ((e = .normal ∧ Boxed U Ba 3 (.int .i64 (st.length : Nat)) ∧ Below Ba Wt U) ∨ (e = .ret ∧ (0 : Int) = 1 ∧ Boxed U (z + 1 + 1) 4 (.bool true) ∧ Below w.heap.size w U ∧ Mks w [] U))) ?range ?after
      case range =>
        refine wpIn_rangeFunc_G2 rfl (by omega) (gf := 33) (lb := #[.pointer (some ⟨Bm, 0, none⟩), .pointer (some ⟨Bm + 1, 0, none⟩)]) rfl trivial (enters_of Tryd.func33 (by kernel_rfl) rfl) (steps_G 8 (by omega) Bm (Bm + 1) g _ s (by omega) ws ms A B C wM HMI'.out HMM.out Va HVa.belM HVa.bm HVa.bs)
          (fun q X Y k o _ hrl hk hk2 ho hc => (hrl.old k hk).trans ho) (fun xs X o o' h _ _ => h) (fun h k => h.trans k) (fun U o o' h ho _ => KpS.putObj U _ o o' h ho (by omega)) (Below.refl _ _) (fun _ => rfl)
          (fun q pre U => Boxed U Ba 3 (.int .i64 (pre.length : Nat)) ∧ Below Ba Wt U)
          (fun c q pre U => c = .ret ∧ (0 : Int) = 1 ∧ Boxed U (z + 1 + 1) 4 (.bool true) ∧ Below w.heap.size w U ∧ Mks w [] U)
          ?own1 ?own2 ?own3 ?own4 (fun q _ => ⟨n0, hbV⟩) actM sO (fun _ => rfl) ?assign ?body ?done ?stop
        case own1 =>
          rintro q pre U U' row ⟨h1, h2⟩ hg hr
          exact ⟨grown_box h1 hg (fun r e => by have := (hr r e).1; omega), grown_b h2 hg (by have := h1.lt; omega) (fun r e => by have := (hr r e).1; omega)⟩
        case own2 =>
          rintro c q pre U U' row ⟨h1, h2, h3, h4, h5⟩ hg hr
          refine ⟨h1, h2, grown_box h3 hg (fun r e => by have := (hr r e).1; omega), grown_b h4 hg (by have := h4.size; omega) (fun r e => by have := (hr r e).1; omega), fun E hE => ⟨(h5 E hE).1, (hg.block E (Array.getElem?_eq_some_iff.1 (h5 E hE).2).1 (fun e => by have := (hr E e.symm).1; have := mBa E hE; omega)).trans (h5 E hE).2⟩⟩
        case own3 =>
          rintro q pre X Y ⟨h1, h2⟩ hXY
          exact ⟨(hXY.old _ (by omega)).trans h1, h2.trans (hXY.below.mono (by omega))⟩
        case own4 =>
          rintro c q pre X Y ⟨h1, h2, h3, h4, h5⟩ hXY
          exact ⟨h1, h2, (hXY.old _ (by omega)).trans h3, h4.trans (hXY.below.mono (by omega)), fun E hE => ⟨(h5 E hE).1, (hXY.old E (by have := mBa E hE; omega)).trans (h5 E hE).2⟩⟩
        case assign =>
          rintro q pre y U K ⟨h1, h2⟩ _ _ hK
          have hb : Below U.heap.size U (U.alloc (sO y)) := (Below.refl _ U).alloc (Nat.le_refl _) _
          have hlt := h1.lt
          unfold valS
          gi_wp2
          exact hK _ _ U.heap.size ((KeepsOthers.alloc _ _).from _) (KpS.of_below hb (by omega)) ⟨boxed_below_s h1 hb, h2.trans (hb.mono (by omega))⟩ (heap_alloc_new U _) (by unfold actM valS; simp)
        case body =>
          rintro q pre y b' U ⟨rr, hrr⟩ hq1 hq2 ⟨h1, h2⟩ hbo ⟨cur, i, hjs, hisn⟩
          obtain ⟨hget, hlt⟩ := hjs.next hisn hJR
          have HU := HT.below (by rw [← HBa.out]; exact h2)
          obtain ⟨rb, cap, hsv, hrb, cr0, cr1⟩ := HU.row.at' hget
          have cS := HU.steps.cell
          rw [hsv] at cS
          have cN := h1.cell
          unfold sO at hbo
          have x0 := cell_of_block hbo 0
          have x1 := cell_of_block hbo 1
          simp only [List.getElem?_toArray, List.getElem?_cons_zero, List.getElem?_cons_succ] at x0 x1
          have d1 : decide ((st.length : Int) ≤ (pre.length : Int)) = false := decide_eq_false (by omega)
          have d1' : decide (st.length ≤ pre.length) = false := decide_eq_false (by omega)
          have d2 : ((y.1 : Int) != (y.1 : Int)) = false := by simp
          have d3 : ((y.2 : Int) != (y.2 : Int)) = false := by simp
          have bi : 0 ≤ (pre.length : Int) ∧ (pre.length : Int) < (st.length : Int) := by omega
          simp only [actM, List.setIfInBounds_toArray, List.set_cons_succ, List.set_cons_zero]
          clear hrr hbo hjs hisn hget HVa
          gi_wp2_with fail
          refine wpIn_region_quietR (by kernel_rfl) (by kernel_rfl) (by kernel_rfl) ?_
          repeat (gi_big_quiet_step (fail))
          refine wpQuietIn_nil ?_
          intro _ hw'
          obtain ⟨nq, hw''⟩ := hw'
          subst hw''
          have hbq : Below U.heap.size U (U.drewN nq) := below_drewN (Below.refl _ U) nq
          obtain ⟨U2, hU2⟩ : ∃ U2, U2 = U.drewN nq := ⟨_, rfl⟩
          rw [← hU2] at hbq ⊢
          clear hU2 cS cN x0 x1 cr0 cr1
          have HU2 := HU.below hbq
          have n2 := boxed_below_s h1 hbq
          have h2q := h2.trans (hbq.mono (by have := h1.lt; omega))
          have cT := HU2.turn.cell
          have cN := n2.cell
          have fN := n2.frozen
          have cP := HU2.stop.cell
          have e1 : (((pre ++ [y]).length : Nat) : Int) = (pre.length : Int) + 1 := by simp
          have hfin : KeepsFrom Va.heap.size U (U2.setCell ⟨Ba, 0, none⟩ (.int .i64 ((pre.length : Int) + 1))) ∧ KpS wM.heap.size (Va.heap.size + 2) U (U2.setCell ⟨Ba, 0, none⟩ (.int .i64 ((pre.length : Int) + 1))) ∧ Boxed (U2.setCell ⟨Ba, 0, none⟩ (.int .i64 ((pre.length : Int) + 1))) Ba 3 (.int .i64 ((pre ++ [y]).length : Nat)) ∧ Below Ba Wt (U2.setCell ⟨Ba, 0, none⟩ (.int .i64 ((pre.length : Int) + 1))) :=
            ⟨((keepsOthers_below_s hbq).trans (KeepsOthers.setCell _ _ _)).from _, (KpS.of_below hbq (by have := h1.lt; omega)).trans (KpS.setBox n2 (by omega) (by omega) _), by rw [e1]; exact n2.set _, h2q.setCell (p := ⟨Ba, 0, none⟩) (Nat.le_refl _) _⟩
          clear e1
          gi_wp2_with fail
          exact hfin
        case done =>
          rintro D q xs U rfl hq ⟨l2, hJ2⟩ ⟨h1, h2⟩ hDk
          have e := (hJR.uniq hJ2).1
          rw [← e] at h1
          exact ⟨_, rfl, Nat.le_refl _, hDk, .inl ⟨rfl, h1, h2⟩⟩
        case stop =>
          rintro D q c' pre U rfl hq hp ⟨rfl, ht, h3, h4, h5⟩ hDk
          gi_wp2_with fail
          first | done | (rw [← sV]; exact hDk) | exact ⟨_, rfl, Nat.le_refl _, hDk, .inr ⟨rfl, ht, h3, h4, h5⟩⟩ | exact ⟨Nat.le_refl _, hDk, .inr ⟨rfl, ht, h3, h4, h5⟩⟩
      case after =>
        rintro Da e Ua ⟨hDa, hKa, hw'⟩
        rcases hw' with ⟨rfl, h1, h2⟩ | ⟨rfl, ht, h3, h4, h5⟩
        · have HU := HT.below (by rw [← HBa.out]; exact h2)
          have cT := HU.turn.cell
          have cS := HU.steps.cell
          have cn := h1.cell
          have dq : ((st.length : Int) != (st.length : Int)) = false := by simp
          have HXa := HU.next (by omega : w.heap.size ≤ Da) hKa (1 : Int)
          gi_wp2_with fail
          obtain ⟨Na, hNa⟩ : ∃ N, N = Ua.alloc (.cells #[.int .i64 (1 : Int)] 3) := ⟨_, rfl⟩
          rw [← hNa] at HXa ⊢
          obtain ⟨Ta, hTa⟩ : ∃ T, T = Ua.heap.size := ⟨_, rfl⟩
          rw [← hTa] at HXa ⊢
          have hDNa : Da < Ta := by rw [hTa]; exact (Array.getElem?_eq_some_iff.1 hKa).1
          clear hNa hTa hKa HU h1 cT cS cn h2
          rw [roundsIn_succ]
          have cT := HXa.turn.cell
          gi_wp2_with fail
          have hbV : Below Na.heap.size Na (Na.alloc (.cells #[.int .i64 0] 3)) := (Below.refl _ Na).alloc (Nat.le_refl _) _
          have n0 : Boxed (Na.alloc (.cells #[.int .i64 0] 3)) Na.heap.size 3 (.int .i64 0) := Boxed.new Na 3 _
          have sV : (Na.alloc (.cells #[.int .i64 0] 3)).heap.size = Na.heap.size + 1 := by simp
          have HVb := HXa.below hbV
          obtain ⟨Vb, hVb⟩ : ∃ V, V = Na.alloc (.cells #[.int .i64 0] 3) := ⟨_, rfl⟩
          rw [← hVb] at hbV n0 sV HVb ⊢
          obtain ⟨Bb, hBb⟩ : ∃ B, B = Na.heap.size := ⟨_, rfl⟩
          have HBb : Hid (Bb = Na.heap.size) := hBb
          rw [← hBb] at n0 sV hbV ⊢
          clear hVb cT
          have zBb : z + 3 ≤ Bb ∧ wM.heap.size ≤ Bb ∧ w.heap.size ≤ Bb := by have h1 := HXa.belM.size; have h2 := HXa.low; have h3 := HXa.bel.size; rw [hBb]; omega
          have mBb : ∀ E ∈ [Da], E < Bb := fun E hE => by rw [hBb]; exact (Array.getElem?_eq_some_iff.1 (HXa.mks E hE).2).1
          clear hBb
          refine mono_named (fun D e U => Vb.heap.size ≤ D ∧ U.heap[D]? = some (.deferred (some [])) ∧ ((e = .normal ∧ Boxed U Bb 3 (.int .i64 (st.length : Nat)) ∧ Below Bb Na U) ∨ (e = .ret ∧ (1 : Int) = 1 ∧ Boxed U (z + 1 + 1) 4 (.bool true) ∧ Below w.heap.size w U ∧ Mks w [Da] U))) ?range ?after
          case range =>
            refine wpIn_rangeFunc_G2 rfl (by omega) (gf := 33) (lb := #[.pointer (some ⟨Bm, 0, none⟩), .pointer (some ⟨Bm + 1, 0, none⟩)]) rfl trivial (enters_of Tryd.func33 (by kernel_rfl) rfl) (steps_G 8 (by omega) Bm (Bm + 1) g _ s (by omega) ws ms A B C wM HMI'.out HMM.out Vb HVb.belM HVb.bm HVb.bs)
              (fun q X Y k o _ hrl hk hk2 ho hc => (hrl.old k hk).trans ho) (fun xs X o o' h _ _ => h) (fun h k => h.trans k) (fun U o o' h ho _ => KpS.putObj U _ o o' h ho (by omega)) (Below.refl _ _) (fun _ => rfl)
              (fun q pre U => Boxed U Bb 3 (.int .i64 (pre.length : Nat)) ∧ Below Bb Na U)
              (fun c q pre U => c = .ret ∧ (1 : Int) = 1 ∧ Boxed U (z + 1 + 1) 4 (.bool true) ∧ Below w.heap.size w U ∧ Mks w [Da] U)
              ?own1 ?own2 ?own3 ?own4 (fun q _ => ⟨n0, hbV⟩) actM sO (fun _ => rfl) ?assign ?body ?done ?stop
            case own1 =>
              rintro q pre U U' row ⟨h1, h2⟩ hg hr
              exact ⟨grown_box h1 hg (fun r e => by have := (hr r e).1; omega), grown_b h2 hg (by have := h1.lt; omega) (fun r e => by have := (hr r e).1; omega)⟩
            case own2 =>
              rintro c q pre U U' row ⟨h1, h2, h3, h4, h5⟩ hg hr
              refine ⟨h1, h2, grown_box h3 hg (fun r e => by have := (hr r e).1; omega), grown_b h4 hg (by have := h4.size; omega) (fun r e => by have := (hr r e).1; omega), fun E hE => ⟨(h5 E hE).1, (hg.block E (Array.getElem?_eq_some_iff.1 (h5 E hE).2).1 (fun e => by have := (hr E e.symm).1; have := mBb E hE; omega)).trans (h5 E hE).2⟩⟩
            case own3 =>
              rintro q pre X Y ⟨h1, h2⟩ hXY
              exact ⟨(hXY.old _ (by omega)).trans h1, h2.trans (hXY.below.mono (by omega))⟩
            case own4 =>
              rintro c q pre X Y ⟨h1, h2, h3, h4, h5⟩ hXY
              exact ⟨h1, h2, (hXY.old _ (by omega)).trans h3, h4.trans (hXY.below.mono (by omega)), fun E hE => ⟨(h5 E hE).1, (hXY.old E (by have := mBb E hE; omega)).trans (h5 E hE).2⟩⟩
            case assign =>
              rintro q pre y U K ⟨h1, h2⟩ _ _ hK
              have hb : Below U.heap.size U (U.alloc (sO y)) := (Below.refl _ U).alloc (Nat.le_refl _) _
              have hlt := h1.lt
              unfold valS
              gi_wp2
              exact hK _ _ U.heap.size ((KeepsOthers.alloc _ _).from _) (KpS.of_below hb (by omega)) ⟨boxed_below_s h1 hb, h2.trans (hb.mono (by omega))⟩ (heap_alloc_new U _) (by unfold actM valS; simp)
            case body =>
              rintro q pre y b' U ⟨rr, hrr⟩ hq1 hq2 ⟨h1, h2⟩ hbo ⟨cur, i, hjs, hisn⟩
              obtain ⟨hget, hlt⟩ := hjs.next hisn hJR
              have HU := HXa.below (by rw [← HBb.out]; exact h2)
              obtain ⟨rb, cap, hsv, hrb, cr0, cr1⟩ := HU.row.at' hget
              have cS := HU.steps.cell
              rw [hsv] at cS
              have cN := h1.cell
              unfold sO at hbo
              have x0 := cell_of_block hbo 0
              have x1 := cell_of_block hbo 1
              simp only [List.getElem?_toArray, List.getElem?_cons_zero, List.getElem?_cons_succ] at x0 x1
              have d1 : decide ((st.length : Int) ≤ (pre.length : Int)) = false := decide_eq_false (by omega)
              have d1' : decide (st.length ≤ pre.length) = false := decide_eq_false (by omega)
              have d2 : ((y.1 : Int) != (y.1 : Int)) = false := by simp
              have d3 : ((y.2 : Int) != (y.2 : Int)) = false := by simp
              have bi : 0 ≤ (pre.length : Int) ∧ (pre.length : Int) < (st.length : Int) := by omega
              simp only [actM, List.setIfInBounds_toArray, List.set_cons_succ, List.set_cons_zero]
              clear hrr hbo hjs hisn hget HVb
              gi_wp2_with fail
              refine wpIn_region_quietR (by kernel_rfl) (by kernel_rfl) (by kernel_rfl) ?_
              repeat (gi_big_quiet_step (fail))
              refine wpQuietIn_nil ?_
              intro _ hw'
              obtain ⟨nq, hw''⟩ := hw'
              subst hw''
              have hbq : Below U.heap.size U (U.drewN nq) := below_drewN (Below.refl _ U) nq
              obtain ⟨U2, hU2⟩ : ∃ U2, U2 = U.drewN nq := ⟨_, rfl⟩
              rw [← hU2] at hbq ⊢
              clear hU2 cS cN x0 x1 cr0 cr1
              have HU2 := HU.below hbq
              have n2 := boxed_below_s h1 hbq
              have h2q := h2.trans (hbq.mono (by have := h1.lt; omega))
              have cT := HU2.turn.cell
              have cN := n2.cell
              have fN := n2.frozen
              have cP := HU2.stop.cell
              have e1 : (((pre ++ [y]).length : Nat) : Int) = (pre.length : Int) + 1 := by simp
              have hfin : KeepsFrom Vb.heap.size U (U2.setCell ⟨Bb, 0, none⟩ (.int .i64 ((pre.length : Int) + 1))) ∧ KpS wM.heap.size (Vb.heap.size + 2) U (U2.setCell ⟨Bb, 0, none⟩ (.int .i64 ((pre.length : Int) + 1))) ∧ Boxed (U2.setCell ⟨Bb, 0, none⟩ (.int .i64 ((pre.length : Int) + 1))) Bb 3 (.int .i64 ((pre ++ [y]).length : Nat)) ∧ Below Bb Na (U2.setCell ⟨Bb, 0, none⟩ (.int .i64 ((pre.length : Int) + 1))) :=
                ⟨((keepsOthers_below_s hbq).trans (KeepsOthers.setCell _ _ _)).from _, (KpS.of_below hbq (by have := h1.lt; omega)).trans (KpS.setBox n2 (by omega) (by omega) _), by rw [e1]; exact n2.set _, h2q.setCell (p := ⟨Bb, 0, none⟩) (Nat.le_refl _) _⟩
              clear e1
              by_cases hst : pre.length = k0
              · have ds : ((pre.length : Int) == (k0 : Int)) = true := by simp; omega
                have hgl := HG.out.below HU2.bel
                gi_wp2_with fail
                refine ⟨trivial, (CallsIn.inRound _ (callsIn_wide.2 (known10_any U2 hgl))).mono ?_⟩
                rintro e U3 ⟨rfl, hb3⟩
                have HU3 := HU2.below hb3
                have c4 := HU3.res.cell
                have f4 := HU3.res.frozen
                gi_wp2_with fail
                exact ⟨(((keepsOthers_below_s hbq).trans (keepsOthers_below_s hb3)).trans (KeepsOthers.setCell _ _ _)).from _, rfl, trivial, HU3.res.set _, HU3.bel.setCell (p := ⟨z + 1 + 1, 0, none⟩) (by have := HU3.low.1; show w.heap.size ≤ z + 1 + 1; omega) _, fun E hE => ⟨(HU3.mks E hE).1, (KeepsOthers.setCell _ ⟨z + 1 + 1, 0, none⟩ _).same E _ (HU3.mks E hE).2 rfl⟩⟩
              · have ds : ((pre.length : Int) == (k0 : Int)) = false := by simp; omega
                gi_wp2_with fail
                exact hfin
            case done =>
              rintro D q xs U rfl hq ⟨l2, hJ2⟩ ⟨h1, h2⟩ hDk
              have e := (hJR.uniq hJ2).1
              rw [← e] at h1
              exact ⟨_, rfl, Nat.le_refl _, hDk, .inl ⟨rfl, h1, h2⟩⟩
            case stop =>
              rintro D q c' pre U rfl hq hp ⟨rfl, ht, h3, h4, h5⟩ hDk
              gi_wp2_with fail
              first | done | (rw [← sV]; exact hDk) | exact ⟨_, rfl, Nat.le_refl _, hDk, .inr ⟨rfl, ht, h3, h4, h5⟩⟩ | exact ⟨Nat.le_refl _, hDk, .inr ⟨rfl, ht, h3, h4, h5⟩⟩
          case after =>
            rintro Db e Ub ⟨hDb, hKb, hw'⟩
            rcases hw' with ⟨rfl, h1, h2⟩ | ⟨rfl, ht, h3, h4, h5⟩
            · have HU := HXa.below (by rw [← HBb.out]; exact h2)
              have cT := HU.turn.cell
              have cS := HU.steps.cell
              have cn := h1.cell
              have dq : ((st.length : Int) != (st.length : Int)) = false := by simp
              have HXb := HU.next (by omega : w.heap.size ≤ Db) hKb (2 : Int)
              gi_wp2_with fail
              obtain ⟨Nb, hNb⟩ : ∃ N, N = Ub.alloc (.cells #[.int .i64 (2 : Int)] 3) := ⟨_, rfl⟩
              rw [← hNb] at HXb ⊢
              obtain ⟨Tb, hTb⟩ : ∃ T, T = Ub.heap.size := ⟨_, rfl⟩
              rw [← hTb] at HXb ⊢
              have hDNb : Db < Tb := by rw [hTb]; exact (Array.getElem?_eq_some_iff.1 hKb).1
              clear hNb hTb hKb HU h1 cT cS cn h2
              rw [roundsIn_succ]
              have cT := HXb.turn.cell
              gi_wp2_with fail
              have hgl := HG.out.below HXb.bel
              refine ⟨trivial, (callsIn_wide.2 (known10_any Nb hgl)).mono ?_⟩
              rintro e X ⟨rfl, hbX⟩
              have HX := HXb.below hbX
              have c4 := HX.res.cell
              have f4 := HX.res.frozen
              gi_wp2_with fail
              have q4 := HX.res.set (.bool true)
              have BX := HX.bel.setCell (p := ⟨z + 1 + 1, 0, none⟩) (by have := HX.low.1; show w.heap.size ≤ z + 1 + 1; omega) (.bool true)
              have KO := KeepsOthers.setCell X ⟨z + 1 + 1, 0, none⟩ (.bool true)
              have mall : ∀ E ∈ [Db, Da], w.heap.size ≤ E ∧ (X.setCell ⟨z + 1 + 1, 0, none⟩ (.bool true)).heap[E]? = some (.deferred (some [])) := fun E hE => ⟨(HX.mks E hE).1, KO.same E _ (HX.mks E hE).2 rfl⟩
              obtain ⟨WX, hWX⟩ : ∃ WX, WX = X.setCell ⟨z + 1 + 1, 0, none⟩ (.bool true) := ⟨_, rfl⟩
              rw [← hWX] at q4 BX mall ⊢
              clear hWX KO
              have kDb := (mall Db (by simp)).2
              have mDa := mall Da (by simp)
              have n3 : Db ≠ Da := by have := mBb Da (by simp); omega
              have e1 : (WX.putObj Db (.deferred none)).heap[Da]? = some (.deferred (some [])) := (World.putObj_heap_other n3.symm).trans mDa.2
              have c1 := cell_kept (q4).cell (grownBy_putObj' WX Db (.deferred none)) (fun r e => by cases e; exact ⟨_, kDb, rfl⟩)
              have c2 := cell_kept c1 (grownBy_putObj' (WX.putObj Db (.deferred none)) Da (.deferred none)) (fun r e => by cases e; exact ⟨_, e1, rfl⟩)
              have y1 := (BX).trans (belowK_b (w := w) (Nat.le_refl _) WX Db _ (.deferred none) (by omega) kDb rfl rfl)
              have y2 := y1.trans (belowK_b (w := w) (Nat.le_refl _) _ Da _ (.deferred none) mDa.1 e1 rfl rfl)
              refine ⟨by simp, .inl ⟨Db, _, rfl, run_takeDeferred kDb, ?_⟩⟩
              refine ⟨by simp, .inl ⟨Da, _, rfl, run_takeDeferred e1, ?_⟩⟩
              exact ⟨.bool true, by simp [results, Tryd.results4, go_sem, c2], rfl, y2⟩
            · gi_wp2_with fail
              have mDa := h5 Da (by simp)
              have n3 : Db ≠ Da := by have := mBb Da (by simp); omega
              have e1 : (Ub.putObj Db (.deferred none)).heap[Da]? = some (.deferred (some [])) := (World.putObj_heap_other n3.symm).trans mDa.2
              have c1 := cell_kept (h3).cell (grownBy_putObj' Ub Db (.deferred none)) (fun r e => by cases e; exact ⟨_, hKb, rfl⟩)
              have c2 := cell_kept c1 (grownBy_putObj' (Ub.putObj Db (.deferred none)) Da (.deferred none)) (fun r e => by cases e; exact ⟨_, e1, rfl⟩)
              have y1 := (h4).trans (belowK_b (w := w) (Nat.le_refl _) Ub Db _ (.deferred none) (by omega) hKb rfl rfl)
              have y2 := y1.trans (belowK_b (w := w) (Nat.le_refl _) _ Da _ (.deferred none) mDa.1 e1 rfl rfl)
              refine ⟨by simp, .inl ⟨Db, _, rfl, run_takeDeferred hKb, ?_⟩⟩
              refine ⟨by simp, .inl ⟨Da, _, rfl, run_takeDeferred e1, ?_⟩⟩
              exact ⟨.bool true, by simp [results, Tryd.results4, go_sem, c2], rfl, y2⟩
        · exact absurd ht (by decide)
end Go.Proofs.YtjbdhakogbolkaaDoor
end
