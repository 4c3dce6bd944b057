/- The document's own Runs: its contract. -/
import Derived.Test.YtddeamecgbdajaaDoorCRow
import Derived.Test.YtddeamecgbdajaaDoorItAt
import Derived.Test.YtddeamecgbdajaaDoorURef3
import Derived.Lib.QuietBelow
namespace Go.Proofs.YtddeamecgbdajaaDoor
open Go.RowKit Go.Sort Go.Joins
theorem stL_pos (pre : List (Nat × Nat)) (h : pre ≠ []) : 0 < (stL pre).2.n := by
  rw [← List.dropLast_concat_getLast h, stL_snoc]
  unfold stp
  split
  · simp
  · split <;> simp
theorem fin_first (p k e : Nat) (hk : 1 ≤ k) : finL (stL [(p, k)]) e = [⟨k, p, e, 1⟩] := by
  show finL (stp ([], ⟨0, 0, 0, 0⟩) (p, k)) e = _
  unfold stp finL
  have : k ≠ 0 := by omega
  simp [this]
theorem fin_same {pre : List (Nat × Nat)} {done : List Rn} {ck cf ct cn : Nat} (h : (done, (⟨ck, cf, ct, cn⟩ : Rn)) = stL pre) (p e : Nat) : finL (stL (pre ++ [(p, ck)])) e = done ++ [⟨ck, cf, e, cn + 1⟩] := by
  rw [stL_snoc, ← h]
  unfold stp finL
  simp
theorem fin_other {pre : List (Nat × Nat)} {done : List Rn} {ck cf ct cn : Nat} (h : (done, (⟨ck, cf, ct, cn⟩ : Rn)) = stL pre) (hn : 0 < cn) (p k e : Nat) (hk : k ≠ ck) : finL (stL (pre ++ [(p, k)])) e = (done ++ [⟨ck, cf, p, cn⟩]) ++ [⟨k, p, e, 1⟩] := by
  rw [stL_snoc, ← h]
  unfold stp finL
  simp [hk, hn]
theorem ownsRow_set {w : World} {base : Nat} {T : TypeId} {size g cap n : Nat} {xs : List Value} (h : w.ownsRow base T size (.slice (some ⟨g, 0, none⟩) n cap) n xs) (j : Nat) (v : Value) :
    (w.setCell ⟨g, j, none⟩ v).ownsRow base T size (.slice (some ⟨g, 0, none⟩) n cap) n (xs.set j v) := by
  refine ⟨by simpa using h.1, ?_⟩
  rcases h.2 with ⟨h0, _⟩ | ⟨g', cap', cur, hv, hg, hh, hn, hm, hs, ht⟩
  · cases h0
  · injection hv with h1 _ h3
    injection h1 with h1
    injection h1 with h1 _ _
    subst h1 h3
    refine .inr ⟨g, cap, _, rfl, hg, block_setCell hh v, hn, hm, by simpa using hs, ?_⟩
    rw [Array.toList_setIfInBounds, List.take_set, ht]
theorem cellsR_last (done : List Rn) (a b c d e f : Nat) : ((cellsR (done ++ [⟨a, b, c, d⟩])).set (done.length * 4 + 2) (.int .i64 (e : Nat))).set (done.length * 4 + 3) (.int .i64 (f : Nat)) = cellsR (done ++ [⟨a, b, e, f⟩]) := by
  have hl := cellsR_length done
  rw [cellsR_snoc, cellsR_snoc, List.set_append_right _ _ (by omega), List.set_append_right _ _ (by omega), hl]
  rw [show done.length * 4 + 2 - done.length * 4 = 2 by omega, show done.length * 4 + 3 - done.length * 4 = 3 by omega]
  rfl
theorem info63 : (Tryd.prog.info? 63).map (fun i => (i.zero, i.size, i.bytes)) = some (some (.agg #[.int .i64 0, .int .i64 0, .int .i64 0, .int .i64 0]), 4, 32) := by kernel_rfl
set_option maxRecDepth 100000 in
set_option maxHeartbeats 8000000 in
theorem refRuns_any (s0 s1 a b c : Option Addr) (n0 c0 n1 c1 ca cb cc : Nat) (A B C : List Sp) (s : ByteArray) (hs : s.size ≤ 500) (w : World) (hA : Lst w a ca A) (hB' : Lst w b cb B) (hC : Lst w c cc C) :
    Calls Tryd.prog 21 #[dtV (.slice s0 n0 c0) (.slice s1 n1 c1) a b c A.length ca B.length cb C.length cc, .string s] w fun e w' => ∃ v, e = .returned v ∧ OwnR 63 w' w.heap.size v (runsL (kindsL A B C (items 0 (tl s))) s.size) ∧ Below w.heap.size w w' := by
  obtain ⟨i0, hi, hz0, hz1, hz2⟩ := info_parts info63
  have HIt := fun wx => refitems_any s (by omega) wx
  have hM := items_length (tl s) 0
  rw [tl_len] at hM
  obtain ⟨M, hMd⟩ : ∃ M, M = items 0 (tl s) := ⟨_, rfl⟩
  have HM : Hid (M = items 0 (tl s)) := hMd
  rw [← hMd] at HIt hM ⊢
  clear hMd
  have b0 : Below w.heap.size w (w.alloc (.cells #[.slice s0 n0 c0, .slice s1 n1 c1, .slice a A.length ca, .slice b B.length cb, .slice c C.length cc] 47)) := (Below.refl _ _).alloc (Nat.le_refl _) _
  have hD := heap_alloc_new w (.cells #[.slice s0 n0 c0, .slice s1 n1 c1, .slice a A.length ca, .slice b B.length cb, .slice c C.length cc] 47)
  obtain ⟨Y0, hY0⟩ : ∃ Y0, Y0 = w.alloc (.cells #[.slice s0 n0 c0, .slice s1 n1 c1, .slice a A.length ca, .slice b B.length cb, .slice c C.length cc] 47) := ⟨_, rfl⟩
  have z0 : Y0.heap.size = w.heap.size + 1 := by rw [hY0]; simp
  rw [← hY0] at b0 hD
  unfold dtV
  go_enter Tryd.func21, Tryd.ntmps21
  go_wp2_with fail
  rw [← hY0]
  clear hY0
  refine (HIt _).mono ?_
  rintro e w1 ⟨v1, rfl, ho1, hb1⟩
  have hD1 := (hb1.block _ (by omega)).trans hD
  have B1 := b0.trans (hb1.mono b0.size)
  have hz1' : w.heap.size < w1.heap.size := by have := hb1.size; omega
  obtain ⟨z, hz⟩ : ∃ z, z = w.heap.size := ⟨_, rfl⟩
  have HZ : Hid (z = w.heap.size) := hz
  rw [← hz] at hD1 hz1' ⊢
  clear hz hD b0 HIt z0
  obtain ⟨a1, k1, rfl⟩ := ho1.len
  have hIt : ∀ i x, M[i]? = some x → ∃ gi, a1 = some ⟨gi, 0, none⟩ ∧ ItAt w1 gi i x := fun i x hx => by
    have hne : M ≠ [] := fun e => by rw [e] at hx; simp at hx
    obtain ⟨gi, cap, he, _, _, _, _, hat⟩ := ho1.form hne
    simp only [Value.slice.injEq] at he
    exact ⟨gi, he.1, hat i x hx⟩
  clear ho1 hb1
  go_wp2_with fail
  go_loopw [5, 7] (fun v i wr => ∃ (pos : Nat) (pre : List It), pos ≤ s.size ∧ i = .int .i64 (pre.length : Nat) ∧ M = pre ++ items pos ((tl s).drop pos) ∧ OwnR 63 wr w1.heap.size v (finL (stL (kindsL A B C pre)) pos) ∧ Below w1.heap.size w1 wr) (fun _ i _ => M.length - (intOf i).toNat)
  case atStart => exact ⟨0, [], Nat.zero_le _, rfl, HM.out, OwnR.nil _ _ _, Below.refl _ _⟩
  case round =>
    obtain ⟨pos, pre, hp, rfl, he, hO, hB⟩ := hrel
    have hsz := hB.size
    by_cases hlt : pos < s.size
    · have hne : (tl s).drop pos ≠ [] := fun h => by have := congrArg List.length h; simp at this; omega
      obtain ⟨f0, f1, f2, f3⟩ := headIt_facts pos ((tl s).drop pos)
      have hd := decode_pos s pos hlt
      rw [(decode_head s pos hne).2] at hd
      rw [items_cons pos _ hne, List.drop_drop, ← f1] at he
      generalize headIt pos ((tl s).drop pos) = x at *
      have hx : M[pre.length]? = some x := by rw [he, List.getElem?_append_right (Nat.le_refl _)]; simp
      have hlen : pre.length < M.length := (List.getElem?_eq_some_iff.1 hx).1
      obtain ⟨gi, rfl, hat⟩ := hIt _ _ hx
      have hgi := World.block_lt_of_cell? w1 _ hat.1
      simp only at hgi
      have ec : ∀ o, wr.cell? ⟨gi, o, none⟩ = w1.cell? ⟨gi, o, none⟩ := fun o => World.cell?_of_block (w := w1) (a := ⟨gi, o, none⟩) (hB.block gi hgi)
      have x0 := (ec _).trans hat.1
      rw [f0] at x0
      have x1 := (ec _).trans hat.2.1
      have x2 := (ec _).trans hat.2.2.1
      have x3 := (ec _).trans hat.2.2.2
      have hDr := (hB.block z hz1').trans hD1
      have k0 := cell_regrown x0
      have k1' := cell_regrown x1
      have k2 := cell_regrown x2
      have k3 := cell_regrown x3
      have d0 := cell_regrown (cell_of_block hDr (i := 0) |>.trans rfl)
      have d1 := cell_regrown (cell_of_block hDr (i := 1) |>.trans rfl)
      have d2 := cell_regrown (cell_of_block hDr (i := 2) |>.trans rfl)
      have d3 := cell_regrown (cell_of_block hDr (i := 3) |>.trans rfl)
      have d4 := cell_regrown (cell_of_block hDr (i := 4) |>.trans rfl)
      have hAr := hA.below (B1.trans (hB.mono B1.size))
      have hBr := hB'.below (B1.trans (hB.mono B1.size))
      have hCr := hC.below (B1.trans (hB.mono B1.size))
      have HK := fun d os => refKind_any s0 s1 a b c n0 c0 n1 c1 ca cb cc A B C pos x.bytes x.rune x.bad (grow (redrawn wr d) os) (hAr.below (below_regrown wr d os)) (hBr.below (below_regrown wr d os)) (hCr.below (below_regrown wr d os))
      unfold dtV at HK
      have hkr : 1 ≤ kindIt A B C x.rune x.bad := by
        unfold kindIt
        split
        · omega
        · exact (kindOf_range A B C x.rune).1
      have hks : kindsL A B C (pre ++ [x]) = kindsL A B C pre ++ [(pos, kindIt A B C x.rune x.bad)] := by
        unfold kindsL
        rw [List.map_append, List.map_cons, List.map_nil, f0]
      obtain ⟨kd, hkd⟩ : ∃ kd, kd = kindIt A B C x.rune x.bad := ⟨_, rfl⟩
      rw [← hkd] at HK hkr hks
      have HKS : Hid (kindsL A B C (pre ++ [x]) = kindsL A B C pre ++ [(pos, kd)]) := hks
      have HE : Hid (M = (pre ++ [x]) ++ items (pos + x.bytes) ((tl s).drop (pos + x.bytes))) := by rw [List.append_assoc]; exact he
      have HD : Hid (pos + x.bytes ≤ s.size ∧ (pre ++ [x]).length = pre.length + 1) := ⟨hd.2, by simp⟩
      have q0 : decide ((pre.length : Int) < (M.length : Int)) = true := decide_eq_true (by omega)
      have hnil : pre = [] ↔ kindsL A B C pre = [] := by simp [kindsL]
      have hprelen : pre.length ≤ 500 := by omega
      have hfb : pos + x.bytes ≤ 500 := by omega
      have hol := stL_len (kindsL A B C pre)
      have hon := stL_n (kindsL A B C pre)
      have hkl : (kindsL A B C pre).length = pre.length := by simp [kindsL]
      rw [hkl] at hol hon
      clear hkd hks he hd f0 f1 f2 f3 hne hx hat hDr hAr hBr hCr
      try dsimp only at HK
      go_wp2_with fail
      refine wp_region_quiet_below (by kernel_rfl) (by kernel_rfl) ?_
      repeat (go_big_quiet_step ((go_at_call 19; exact Calls.regrown_of (HK _ _))))
      refine wpQuiet_nil ?_
      intro W5 hw'
      have hb5 : Below wr.heap.size wr W5 := by
        obtain ⟨⟨dq, osq⟩, rfl⟩ := hw'
        exact below_regrown _ _ _
      have y0 := (hb5.cell (World.block_lt_of_cell? wr _ x0)).trans x0
      have y1 := (hb5.cell (World.block_lt_of_cell? wr _ x1)).trans x1
      have hO5 : OwnR 63 W5 w1.heap.size _ _ := hO.below hb5 (Nat.le_refl _)
      have hB5 := hB.trans (hb5.mono hsz)
      have hs5 : w1.heap.size ≤ W5.heap.size := Nat.le_trans hsz hb5.size
      have HMs : Hid (∀ q : Nat, M.length - (pre.length + 1) < M.length - pre.length) := fun _ => by omega
      clear hw' HK k0 k1' k2 k3 d0 d1 d2 d3 d4 hb5 x0 x1 x2 x3 hO hB hsz ec
      go_wp2_with fail
      go_quiet (fail)
      obtain ⟨⟨done, ⟨ck, cf, ct, cn⟩⟩, hst⟩ : ∃ st, st = stL (kindsL A B C pre) := ⟨_, rfl⟩
      by_cases hp0 : pre = []
      · subst hp0
        obtain rfl : u5 = .slice none 0 0 := hO5.2.2 rfl
        have hO5 : OwnR 63 W5 w1.heap.size (.slice none 0 0) [] := hO5
        have hlen : 0 < M.length := hlen
        have y0 : W5.cell? ⟨gi, 0, none⟩ = some (.int .i64 (pos : Nat)) := y0
        have y1 : W5.cell? ⟨gi, 1, none⟩ = some (.int .i64 (x.bytes : Nat)) := y1
        have HEQ : Hid (finL (stL (kindsL A B C ([] ++ [x]))) (pos + x.bytes) = [] ++ [⟨kd, pos, pos + x.bytes, 1⟩]) := by
          show _ = _
          rw [HKS.out]
          exact fin_first pos kd (pos + x.bytes) hkr
        have hrow : OwnR 63 ((W5.drewN nq).alloc (.cells (cellR ⟨kd, pos, pos + x.bytes, 1⟩).toArray 63)) w1.heap.size _ _ := OwnR.below hO5 (show Below W5.heap.size W5 _ from (below_drewN (Below.refl _ W5) nq).alloc (show W5.heap.size ≤ W5.heap.size from Nat.le_refl _) _) (Nat.le_refl _)
        obtain ⟨v', w7, hr1, ho1, ht1⟩ := run_own_rn 59 63 i0 _ Tryd.underlying59 hi hz0 hz1 hz2 rfl ((W5.drewN nq).alloc (.cells (cellR ⟨kd, pos, pos + x.bytes, 1⟩).toArray 63)) w1.heap.size _ _ ⟨kd, pos, pos + x.bytes, 1⟩ (W5.drewN nq).heap.size 1 hrow (World.alloc_heap_new _ _) (by rw [World.size_alloc]; show w1.heap.size ≤ W5.heap.size + 1; omega) (by first | (simp; done) | (simp; omega))
        have hbw : Below w1.heap.size w1 w7 := (hB5.trans ((below_drewN (Below.refl w1.heap.size W5) nq).alloc (show w1.heap.size ≤ W5.heap.size from hs5) _)).trans (ht1.below (by rw [World.size_alloc]; show w1.heap.size ≤ W5.heap.size + 1; omega))
        unfold cellR at hr1
        rw [show ((pos + x.bytes : Nat) : Int) = (pos : Int) + (x.bytes : Int) from by simp, show ((1 : Nat) : Int) = 1 from rfl] at hr1
        clear hst hol hon hkl hnil HKS hrow ht1 hO5
        go_wp2_with (at_builtin; refine wpList_append_run rfl (.tmp 66) (.tmp 75) 59 59 rfl _ _ rfl rfl _ w7 hr1 ?_)
        exact ⟨⟨pos + x.bytes, [] ++ [x], HD.out.1, by simp, HE.out, by rw [HEQ.out]; exact ho1, hbw⟩, by simp [intOf]; omega⟩
      · have hne2 : kindsL A B C pre ≠ [] := fun h => hp0 (hnil.2 h)
        have hcn := stL_pos _ hne2
        rw [← hst] at hcn hol hon
        simp only at hcn hol hon
        have hdl : done.length ≤ 500 := by omega
        have hcl : cn ≤ 500 := by omega
        have hO5 : OwnR 63 W5 w1.heap.size u5 (done ++ [⟨ck, cf, pos, cn⟩]) := by
          rw [← hst] at hO5
          unfold finL at hO5
          simpa [hcn] using hO5
        have ho3 := hO5.1
        rw [show (done ++ [(⟨ck, cf, pos, cn⟩ : Rn)]).length = done.length + 1 by simp] at ho3
        obtain ⟨g', cap', rfl⟩ := ownsRow_succ ho3
        obtain ⟨a0, a1, a2, a3⟩ := row_at ho3 (by simp) (i := done.length) (x := ⟨ck, cf, pos, cn⟩) (by simp)
        simp only at a0 a1 a2 a3
        have hg' : ∃ cur, W5.heap[g']? = some (.cells cur 63 (0, 0)) ∧ w1.heap.size ≤ g' := by
          rcases ho3.2 with ⟨h, _⟩ | ⟨g2, cap2, cur, hv, hg, hh, _⟩
          · cases h
          · injection hv with h _ _
            injection h with h
            injection h with h _ _
            subst h
            exact ⟨cur, hh, hg⟩
        obtain ⟨cur, hcur, hgw⟩ := hg'
        by_cases hk : kd = ck
        · subst hk
          have HEQ : Hid (finL (stL (kindsL A B C (pre ++ [x]))) (pos + x.bytes) = done ++ [⟨kd, cf, pos + x.bytes, cn + 1⟩]) := by
            show _ = _
            rw [HKS.out]
            exact fin_same hst pos (pos + x.bytes)
          have q1 : ((kd : Int) == (kd : Int)) = true := by simp
          have f0 := fun j => unfrozen_of_block hcur j
          clear hst hol hkl hnil HKS
          go_wp2_with fail
          have ho4 := ownsRow_set (ownsRow_set ho3 (done.length * 4 + 2) (.int .i64 ((pos + x.bytes : Nat) : Int))) (done.length * 4 + 3) (.int .i64 ((cn + 1 : Nat) : Int))
          rw [cellsR_last] at ho4
          rw [show ((pos + x.bytes : Nat) : Int) = (pos : Int) + (x.bytes : Int) from by simp, show ((cn + 1 : Nat) : Int) = (cn : Int) + 1 from by simp] at ho4
          have hbw : Below w1.heap.size w1 (((W5.drewN nq).setCell ⟨g', done.length * 4 + 2, none⟩ (.int .i64 ((pos : Int) + (x.bytes : Int)))).setCell ⟨g', done.length * 4 + 3, none⟩ (.int .i64 ((cn : Int) + 1))) :=
            ((below_drewN hB5 nq).setCell (p := ⟨g', done.length * 4 + 2, none⟩) hgw _).setCell (p := ⟨g', done.length * 4 + 3, none⟩) hgw _
          refine ⟨⟨pos + x.bytes, pre ++ [x], HD.out.1, by rw [HD.out.2]; go_num, HE.out, ?_, hbw⟩, by simp only [intOf]; omega⟩
          rw [HEQ.out]
          refine ⟨?_, by simp⟩
          rw [show (done ++ [(⟨kd, cf, pos + x.bytes, cn + 1⟩ : Rn)]).length = done.length + 1 by simp]
          exact ho4
        · have HEQ : Hid (finL (stL (kindsL A B C (pre ++ [x]))) (pos + x.bytes) = (done ++ [⟨ck, cf, pos, cn⟩]) ++ [⟨kd, pos, pos + x.bytes, 1⟩]) := by
            show _ = _
            rw [HKS.out]
            exact fin_other hst hcn pos kd (pos + x.bytes) hk
          have q1 : ((ck : Int) == (kd : Int)) = false := by simp; omega
          have hrow : OwnR 63 ((W5.drewN nq).alloc (.cells (cellR ⟨kd, pos, pos + x.bytes, 1⟩).toArray 63)) w1.heap.size _ _ := OwnR.below hO5 (show Below W5.heap.size W5 _ from (below_drewN (Below.refl _ W5) nq).alloc (show W5.heap.size ≤ W5.heap.size from Nat.le_refl _) _) (Nat.le_refl _)
          obtain ⟨v', w7, hr1, ho1, ht1⟩ := run_own_rn 59 63 i0 _ Tryd.underlying59 hi hz0 hz1 hz2 rfl ((W5.drewN nq).alloc (.cells (cellR ⟨kd, pos, pos + x.bytes, 1⟩).toArray 63)) w1.heap.size _ _ ⟨kd, pos, pos + x.bytes, 1⟩ (W5.drewN nq).heap.size 1 hrow (World.alloc_heap_new _ _) (by rw [World.size_alloc]; show w1.heap.size ≤ W5.heap.size + 1; omega) (by first | (simp; done) | (simp; omega))
          have hbw : Below w1.heap.size w1 w7 := (hB5.trans ((below_drewN (Below.refl w1.heap.size W5) nq).alloc (show w1.heap.size ≤ W5.heap.size from hs5) _)).trans (ht1.below (by rw [World.size_alloc]; show w1.heap.size ≤ W5.heap.size + 1; omega))
          unfold cellR at hr1
          rw [show ((pos + x.bytes : Nat) : Int) = (pos : Int) + (x.bytes : Int) from by simp, show ((1 : Nat) : Int) = 1 from rfl] at hr1
          clear hst hkl hnil HKS hrow ht1 hO5
          go_wp2_with (at_builtin; refine wpList_append_run rfl (.tmp 66) (.tmp 75) 59 59 rfl _ _ rfl rfl _ w7 hr1 ?_)
          exact ⟨⟨pos + x.bytes, pre ++ [x], HD.out.1, by rw [HD.out.2]; go_num, HE.out, by rw [HEQ.out]; exact ho1, hbw⟩, by simp only [intOf]; omega⟩
    · obtain rfl : pos = s.size := by omega
      have hd0 : (tl s).drop s.size = [] := by rw [← tl_len, List.drop_length]
      rw [hd0, items_nil, List.append_nil] at he
      subst he
      have q0 : decide ((M.length : Int) < (M.length : Int)) = false := decide_eq_false (by omega)
      clear hIt hD1
      go_wp2_with fail
      go_ret
      exact ⟨u5, rfl, ⟨ownsRow_le hO.1 (by rw [← HZ.out]; omega), hO.2⟩, B1.trans (hB.mono B1.size)⟩
end Go.Proofs.YtddeamecgbdajaaDoor
