import Derived.Test.YtjbdhakogbolkaaDoorJ21
section
/- BpeSteps' walk. -/
namespace Go.Proofs.YtjbdhakogbolkaaDoor
open Go.RowKit Go.Shelf Go.Lib
open Go.Joins Go.Sort
attribute [local go_sem] Oper.semAt_some
set_option linter.unusedVariables false
set_option linter.unusedSimpArgs false
set_option maxRecDepth 100000
theorem RowN.kept' {w w' : World} {base : Nat} {v : Value} {l : List Int} (h : RowN w base v l) (hb : ∀ k o, v.ownBlock = some k → w.heap[k]? = some o → (∃ cs, o = .cells cs 3 (0, 0)) → w'.heap[k]? = some o) : RowN w' base v l :=
  ⟨h.1, by
    rcases h.2 with h0 | ⟨b, cap, cur, e, hbb, hh, rr⟩
    · exact .inl h0
    · exact .inr ⟨b, cap, cur, e, hbb, hb b _ (by rw [e]; rfl) hh ⟨_, rfl⟩, rr⟩⟩
def actW (a : Act) (x : Nat × Nat) (b : Nat) : Act := { tmps := (a.tmps.setIfInBounds 42 (valS x)).setIfInBounds 12 (.pointer (some ⟨b, 0, none⟩)), defers := [] }
/-- What a round of BpeSteps keeps. -/
def IW (ms : List Mg) (s : ByteArray) (w1 : World) (mb lb Lb V g : Nat) (q : Nat) (pre : List (Nat × Nat)) (U : World) : Prop :=
  ∃ cur lv, JS ms (byL s) pre cur ∧ Boxed U lb 34 lv ∧ RowN U w1.heap.size lv cur ∧ (∀ k, lv.ownBlock = some k → k < V + 2 ∨ q ≤ k) ∧ Boxed U Lb 3 (.int .i64 (lastR pre : Nat)) ∧ Boxed U (Lb + 1) 3 (.int .i64 (pre.length : Nat)) ∧ Boxed U mb 31 (.pointer (some ⟨g, 0, none⟩)) ∧ Below w1.heap.size w1 U
theorem IW.grown {ms : List Mg} {s : ByteArray} {w1 U U' : World} {mb lb Lb V g q : Nat} {pre : List (Nat × Nat)} {row : Option Nat} (h : IW ms s w1 mb lb Lb V g q pre U) (hg : U.grownBy U' row) (hV : mb < V ∧ lb < V ∧ Lb + 1 < V ∧ w1.heap.size ≤ V) (hr : ∀ r, row = some r → V ≤ r ∧ ∃ o : Obj, U.heap[r]? = some o ∧ o.isCells = false) : IW ms s w1 mb lb Lb V g q pre U' := by
  obtain ⟨cur, lv, h1, h2, h3, h4, h5, h6, h7, h8⟩ := h
  refine ⟨cur, lv, h1, grown_box h2 hg (fun r e => by have := (hr r e).1; omega), h3.kept' (fun k o _ ho ⟨cs, e⟩ => (hg.block k (Array.getElem?_eq_some_iff.1 ho).1 (fun e2 => ?_)).trans ho), h4, grown_box h5 hg (fun r e => by have := (hr r e).1; omega), grown_box h6 hg (fun r e => by have := (hr r e).1; omega), grown_box h7 hg (fun r e => by have := (hr r e).1; omega), grown_b h8 hg (by have := h8.size; omega) (fun r e => by have := (hr r e).1; omega)⟩
  obtain ⟨_, o', ho', hc⟩ := hr k e2.symm
  rw [ho] at ho'
  cases ho'
  rw [e] at hc
  cases hc
theorem IW.rl {ms : List Mg} {s : ByteArray} {w1 U U' : World} {mb lb Lb V g q : Nat} {pre : List (Nat × Nat)} (h : IW ms s w1 mb lb Lb V g q pre U) (hV : mb < V ∧ lb < V ∧ Lb + 1 < V ∧ w1.heap.size ≤ V) (hr : RlS (V + 2) q U U') : IW ms s w1 mb lb Lb V g q pre U' := by
  obtain ⟨cur, lv, h1, h2, h3, h4, h5, h6, h7, h8⟩ := h
  refine ⟨cur, lv, h1, (hr.old _ (by omega)).trans h2, h3.kept' (fun k o hk ho ⟨cs, e⟩ => ?_), h4, (hr.old _ (by omega)).trans h5, (hr.old _ (by omega)).trans h6, (hr.old _ (by omega)).trans h7, h8.trans (hr.below.mono (by omega))⟩
  rcases h4 k hk with h | h
  · exact (hr.old k h).trans ho
  · refine hr.block k o h ho (fun ⟨_, _, e2⟩ => ?_) (by rw [e]; rfl)
    rw [e] at e2
    injection e2 with _ ht _
    exact absurd ht (by decide)
def f26 (a : Act) (vs : List Value) : Act := { a with tmps := (((((((((((((((a.tmps.setIfInBounds 117 (vs.getD 0 undef)).setIfInBounds 118 (vs.getD 1 undef)).setIfInBounds 119 (vs.getD 2 undef)).setIfInBounds 120 (vs.getD 3 undef)).setIfInBounds 121 (vs.getD 4 undef)).setIfInBounds 122 (vs.getD 5 undef)).setIfInBounds 123 (vs.getD 6 undef)).setIfInBounds 124 (vs.getD 7 undef)).setIfInBounds 125 (vs.getD 8 undef)).setIfInBounds 126 (vs.getD 9 undef)).setIfInBounds 127 (vs.getD 10 undef)).setIfInBounds 128 (vs.getD 11 undef)).setIfInBounds 129 (vs.getD 12 undef)).setIfInBounds 130 (vs.getD 13 undef)).setIfInBounds 131 (vs.getD 14 undef)) }
/-- What region 26 ends in. -/
def R26 (wr : World) (lb : Nat) (l : List Int) (vs : List Value) (W : World) : Prop := RowN W wr.heap.size (vs.getD 14 undef) l ∧ Boxed W lb 34 (vs.getD 14 undef) ∧ wr.grownBy W (some lb)
theorem R26.mk {wr W : World} {lb : Nat} {l : List Int} {vs : List Value} {v x : Value} (hv : vs.getD 14 undef = v) (h : RowN W wr.heap.size v l) (hB : Below wr.heap.size wr W) (hb : Boxed W lb 34 x) (hl : lb < wr.heap.size) : R26 wr lb l vs (W.setCell ⟨lb, 0, none⟩ v) := by
  have hk : ∀ k, k ≠ lb → (W.setCell ⟨lb, 0, none⟩ v).heap[k]? = W.heap[k]? := fun k hk => Below.heap_setCell W ⟨lb, 0, none⟩ v k hk
  unfold R26
  rw [hv]
  exact ⟨h.kept (fun k o h1 h2 _ => (hk k (by omega)).trans h2), hb.set _, ⟨hB.os, hB.tape, hB.output, by simp; exact hB.size, fun k h1 h2 => (hk k (fun e => h2 (by rw [e]))).trans (hB.block k h1)⟩⟩
theorem KpS.of_grown {M0 B0 : Nat} {A B : World} {row : Option Nat} (h : A.grownBy B row) (hM : M0 ≤ A.heap.size) (hr : ∀ r, row = some r → M0 ≤ r ∧ r < B0 ∧ ∀ o, A.heap[r]? = some o → ¬ PairO o) : KpS M0 B0 A B :=
  ⟨h.os, h.tape, h.output, h.size, fun k hk => h.block k (by omega) (fun e => by have := (hr k e.symm).1; omega), fun k o h1 hc ho => (h.block k (Array.getElem?_eq_some_iff.1 ho).1 (fun e => by
    obtain ⟨g1, g2, g3⟩ := hr k e.symm
    rcases h1 with h1 | h1
    · omega
    · exact g3 o ho h1)).trans ho⟩
set_option maxHeartbeats 4000000 in
theorem steps_walk (aw am a b c : Option Addr) (cw cm ca cb cc : Nat) (ws : List ByteArray) (ms : List Mg) (A B C : List Sp) (s0 : ByteArray) (w : World) (hwf : MWf ms) (hn : ws.length ≤ 8796093022208 ∧ ms.length ≤ 5864062014805 ∧ A.length ≤ 17592186044416 ∧ B.length ≤ 17592186044416 ∧ C.length ≤ 17592186044416) (hW : WSP w aw ws) (hM : MSP w am ms) (hA : Lst w a ca A) (hB : Lst w b cb B) (hC : Lst w c cc C) (hG : GL w) :
    Calls Tryd.prog 7 #[.agg #[.slice aw ws.length cw, .slice am ms.length cm, .slice a A.length ca, .slice b B.length cb, .slice c C.length cc], .string s0] w fun e w' => e = .returned (.bool true) ∧ Below w.heap.size w w' := by
  refine (callsIn_wide (n := 9)).1 ?_
  have hD := DBox.new w (.slice aw ws.length cw) (.slice am ms.length cm) (.slice a A.length ca) (.slice b B.length cb) (.slice c C.length cc)
  have hb0 : Below w.heap.size w ((w.alloc (.cells #[.slice aw ws.length cw, .slice am ms.length cm, .slice a A.length ca, .slice b B.length cb, .slice c C.length cc] 30)).alloc (.cells #[.bool false] 4)) := ((Below.refl _ w).alloc (Nat.le_refl _) _).alloc (by simp) _
  have HW : Hid (WSP w aw ws) := hW
  have HM : Hid (MSP w am ms) := hM
  have HA : Hid (Lst w a ca A) := hA
  have HB : Hid (Lst w b cb B) := hB
  have HC : Hid (Lst w c cc C) := hC
  have HG : Hid (GL w) := hG
  have HMI := mergeM_W64 hwf
  clear hW hM hA hB hC hG
  have x0 := cell_alloc_s hD.c0 (.cells #[.bool false] 4)
  have x1 := cell_alloc_s hD.c1 (.cells #[.bool false] 4)
  have x2 := cell_alloc_s hD.c2 (.cells #[.bool false] 4)
  have x3 := cell_alloc_s hD.c3 (.cells #[.bool false] 4)
  have x4 := cell_alloc_s hD.c4 (.cells #[.bool false] 4)
  have r2 : Boxed ((w.alloc (.cells #[.slice aw ws.length cw, .slice am ms.length cm, .slice a A.length ca, .slice b B.length cb, .slice c C.length cc] 30)).alloc (.cells #[.bool false] 4)) (w.heap.size + 1) 4 (.bool false) := by
    have := Boxed.new (w.alloc (.cells #[.slice aw ws.length cw, .slice am ms.length cm, .slice a A.length ca, .slice b B.length cb, .slice c C.length cc] 30)) 4 (.bool false)
    rwa [World.size_alloc] at this
  refine callsIn_of_wp_marks Tryd.func7 rfl trivial ?_ rfl
  simp only [Tryd.ntmps7, List.size_toArray, List.length_cons, List.length_nil, Nat.reduceAdd, Nat.reduceSub, Array.replicate_succ, Array.replicate_zero, List.push_toArray, List.append_toArray, List.nil_append, List.cons_append]
  gi_wp2_with fail
  obtain ⟨Y, hY⟩ : ∃ Y, Y = (w.alloc (.cells #[.slice aw ws.length cw, .slice am ms.length cm, .slice a A.length ca, .slice b B.length cb, .slice c C.length cc] 30)).alloc (.cells #[.bool false] 4) := ⟨_, rfl⟩
  rw [← hY] at hb0 x0 x1 x2 x3 x4 r2 ⊢
  have hYs : Y.heap.size = w.heap.size + 2 := by rw [hY]; simp
  clear hY hD
  refine ⟨trivial, (callsIn_wide.2 (keepOf_any aw am a b c cw cm ca cb cc ws ms A B C Y hwf (by omega) (HW.out.below hb0) (HM.out.below hb0) (HA.out.below hb0) (HB.out.below hb0) (HC.out.below hb0) (HG.out.below hb0))).mono ?_⟩
  rintro e w1 ⟨p, rfl, hp1, hp2, hb1⟩
  have B1 := hb0.trans (hb1.mono hb0.size)
  have r2a := boxed_below_s r2 hb1
  have hbm : Below w1.heap.size w1 (w1.alloc (.cells #[.pointer p] 31)) := (Below.refl _ w1).alloc (Nat.le_refl _) _
  have m2 : Boxed (w1.alloc (.cells #[.pointer p] 31)) w1.heap.size 31 (.pointer p) := Boxed.new w1 31 _
  have r2b := boxed_below_s r2a hbm
  have hs1 : w.heap.size + 2 ≤ w1.heap.size := by have := hb1.size; omega
  clear HW HM HA HB HC x0 x1 x2 x3 x4 r2
  obtain ⟨z, hz⟩ : ∃ z, z = w.heap.size := ⟨_, rfl⟩
  have HZ : Hid (z = w.heap.size) := hz
  rw [← hz] at r2b r2a hYs hs1 ⊢
  clear hz
  cases hU : upB ws ms A B C with
  | false =>
    obtain rfl := hp2 hU
    clear hp1 hp2 hU hb1 hb0 HMI
    gi_wp2_with fail
    obtain ⟨w2, hw2⟩ : ∃ w2, w2 = w1.alloc (.cells #[.pointer none] 31) := ⟨_, rfl⟩
    rw [← hw2] at r2b hbm m2 ⊢
    have B2 := B1.trans (hbm.mono B1.size)
    refine ⟨trivial, (callsIn_wide.2 (known10_any w2 (HG.out.below B2))).mono ?_⟩
    rintro e w9 ⟨rfl, hb9⟩
    have r9 := boxed_below_s r2b hb9
    have f9 := r9.frozen
    have c9 := r9.cell
    have hB9 := B2.trans (hb9.mono B2.size)
    gi_wp2_with fail
    have c10 := (r9.set (.bool true)).cell
    have hB10 := hB9.setCell (p := ⟨z + 1, 0, none⟩) (by have := HZ.out; show w.heap.size ≤ z + 1; omega) (.bool true)
    exact ⟨.bool true, by simp [results, Tryd.results7, go_sem, c10], rfl, hB10⟩
  | true =>
    obtain ⟨g, rfl, hMd⟩ := hp1 hU
    have hk := upB_ok hU
    have HK : Hid (MOk ws ms A B C) := hk
    clear hp1 hp2 hU hb0 hk
    obtain ⟨s, hs⟩ : ∃ s, s = fewF s0 200 := ⟨_, rfl⟩
    have hsz : s.size ≤ 200 := by rw [hs]; exact fewF_size _ _
    have HF := fun wx => few10_any s0 200 wx
    rw [← hs] at HF
    rw [show ((200 : Nat) : Int) = 200 from rfl] at HF
    clear hs
    have HMI' : Hid (∀ l r k i, mergeM ms l r = some (k, i) → W64 i) := HMI
    clear HMI
    gi_wp2_with fail
    obtain ⟨w2, hw2⟩ : ∃ w2, w2 = w1.alloc (.cells #[.pointer (some ⟨g, 0, none⟩)] 31) := ⟨_, rfl⟩
    have hs2 : w2.heap.size = w1.heap.size + 1 := by rw [hw2]; simp
    rw [← hw2] at r2b hbm m2 ⊢
    clear hw2
    refine ⟨trivial, (callsIn_wide.2 (HF w2)).mono ?_⟩
    rintro e w3 ⟨rfl, he⟩
    obtain rfl := he.symm
    clear HF
    gi_wp2_with fail
    refine ⟨trivial, (callsIn_wide.2 (refBytes_any s w2 (by omega))).mono ?_⟩
    rintro e w3 ⟨vb, rfl, hN3, hb3⟩
    obtain ⟨ia, ic, rfl, hin⟩ := hN3.ins
    have m3 := boxed_below_s m2 hb3
    have r3 := boxed_below_s r2b hb3
    have hs3 := hb3.size
    obtain ⟨w4, hw4⟩ : ∃ w4, w4 = w3.alloc (.cells #[.slice ia (byL s).length ic] 34) := ⟨_, rfl⟩
    have hb4 : Below w3.heap.size w3 w4 := by rw [hw4]; exact (Below.refl _ w3).alloc (Nat.le_refl _) _
    have l4 : Boxed w4 w3.heap.size 34 (.slice ia (byL s).length ic) := by rw [hw4]; exact Boxed.new w3 34 _
    have hs4 : w4.heap.size = w3.heap.size + 1 := by rw [hw4]; simp
    have m4 := boxed_below_s m3 hb4
    have m4c := cell_alloc_s m3.cell (.cells #[.slice ia (byL s).length ic] 34)
    have B4 : Below w1.heap.size w1 w4 := (hbm.trans (hb3.mono (by omega))).trans (hb4.mono (by omega))
    have n4 := (hN3.below hb4).low (base' := w1.heap.size) (by omega)
    have ow4 : ∀ k, (Value.slice ia (byL s).length ic).ownBlock = some k → k < w4.heap.size := fun k hk => by have := World.ownsRow.lt hN3 k hk; omega
    clear m2 m3 r2b
    gi_wp2_with fail
    rw [← hw4]
    obtain ⟨lb, hlb⟩ : ∃ lb, lb = w3.heap.size := ⟨_, rfl⟩
    obtain ⟨mb, hmb⟩ : ∃ mb, mb = w1.heap.size := ⟨_, rfl⟩
    rw [← hlb] at l4 hs4 ⊢
    rw [← hmb] at m4 ⊢
    refine ⟨trivial, (steps_in _ _ s w4).mono ?_⟩
    rintro e w5 ⟨rfl, hw5⟩
    have hb5 : Below w4.heap.size w4 w5 := by rw [hw5]; exact ((Below.refl _ w4).alloc (Nat.le_refl _) _).alloc (by simp) _
    have hs5 : w5.heap.size = w4.heap.size + 2 := by rw [hw5]; simp
    have hBm : Boxed w5 w4.heap.size 31 (.pointer (some ⟨g, 0, none⟩)) := by rw [hw5]; exact (Boxed.new w4 31 _).alloc _
    have hBs : Boxed w5 (w4.heap.size + 1) 9 (.string s) := by
      have := Boxed.new (w4.alloc (.cells #[.pointer (some ⟨g, 0, none⟩)] 31)) 9 (.string s)
      rw [World.size_alloc] at this
      rw [hw5]; exact this
    clear hw5
    have hnf : ∀ (wx : World) (lb : Array Value), (binOp BinOp.eql 41 (.func (.func 33) #[] lb) .nilFunc).run Tryd.prog wx = .ok (.bool false) wx := fun wx lb => by rfl
    obtain ⟨Bm, hBmd⟩ : ∃ Bm, Bm = w4.heap.size := ⟨_, rfl⟩
    rw [← hBmd] at hBm hBs ⊢
    have hb7 : Below w5.heap.size w5 ((w5.alloc (.cells #[.int .i64 0] 3)).alloc (.cells #[.int .i64 0] 3)) := ((Below.refl _ w5).alloc (Nat.le_refl _) _).alloc (by simp) _
    have k7 := (Boxed.new w5 3 (.int .i64 0)).alloc (.cells #[.int .i64 0] 3)
    have j7 := Boxed.new (w5.alloc (.cells #[.int .i64 0] 3)) 3 (.int .i64 0)
    rw [World.size_alloc] at j7
    have hs7 : ((w5.alloc (.cells #[.int .i64 0] 3)).alloc (.cells #[.int .i64 0] 3)).heap.size = w5.heap.size + 2 := by simp
    obtain ⟨V, hV⟩ : ∃ V, V = (w5.alloc (.cells #[.int .i64 0] 3)).alloc (.cells #[.int .i64 0] 3) := ⟨_, rfl⟩
    have hnV : V.heap.size = w5.heap.size + 2 := by rw [hV]; exact hs7
    clear hs7
    have HVV : Hid (V = (w5.alloc (.cells #[.int .i64 0] 3)).alloc (.cells #[.int .i64 0] 3)) := hV
    rw [← hV] at hb7 k7 j7
    clear hV
    obtain ⟨Lb, hLb⟩ : ∃ Lb, Lb = w5.heap.size := ⟨_, rfl⟩
    rw [← hLb] at k7 j7
    have HLB : Hid (Lb = w5.heap.size) := hLb
    have B57 := hb5.trans (hb7.mono (by omega))
    have l7 := boxed_below_s l4 B57
    have m7 := boxed_below_s m4 B57
    have n7 := n4.below B57
    have B7 := B4.trans (B57.mono (by omega))
    have hBm7 := boxed_below_s hBm hb7
    have hBs7 := boxed_below_s hBs hb7
    have hBR : mb < V.heap.size ∧ lb < V.heap.size ∧ Lb + 1 < V.heap.size ∧ w1.heap.size ≤ V.heap.size := by omega
    have hI0 : ∀ q, IW ms s w1 mb lb Lb V.heap.size g q [] V := fun q => ⟨byL s, _, JS.nil, l7, n7, fun k hk => .inl (by have := ow4 k hk; omega), k7, j7, m7, B7⟩
    have hbd : w1.heap.size ≤ mb ∧ mb < lb ∧ lb < Lb := by omega
    clear hLb hlb hmb hBmd hnV hs5 hs4 hb7 hb5 hb4 hb3 hBm hBs l4 m4 m4c n4 l7 m7 n7 k7 j7 B57 hw4
    gi_wp2_with fail
    rw [← HVV.out, ← HLB.out]
    refine wpIn_rangeFunc_G2 rfl (by omega) (gf := 33) (lb := #[.pointer (some ⟨Bm, 0, none⟩), .pointer (some ⟨Bm + 1, 0, none⟩)]) rfl trivial (enters_of Tryd.func33 (by kernel_rfl) rfl) (steps_G 8 (by omega) Bm (Bm + 1) g _ s (by omega) ws ms A B C w1 HMI'.out hMd V B7 hBm7 hBs7)
      (fun q X Y k o _ hrl hk hk2 ho hc => (hrl.old k hk).trans ho) (fun xs X o o' h _ _ => h) (fun h k => h.trans k) (fun U o o' h ho _ => KpS.putObj U _ o o' h ho (by omega)) (Below.refl _ _) (fun _ => rfl)
      (IW ms s w1 mb lb Lb V.heap.size g) (fun c q pre U => False)
      ?own1 ?own2 ?own3 ?own4 (fun q _ => hI0 q) actW sO (fun _ => rfl) ?assign ?body ?done ?stop
    case own1 => exact fun q pre U U' row h hg hr => h.grown hg hBR hr
    case own2 => exact fun c q pre U U' row h _ _ => h
    case own3 => exact fun q pre X Y h hXY => h.rl hBR hXY
    case own4 => exact fun c q pre X Y h _ => h
    case assign =>
      rintro q pre y U K hi _ hq hK
      have hb : Below U.heap.size U (U.alloc (sO y)) := (Below.refl _ U).alloc (Nat.le_refl _) _
      unfold valS
      gi_wp2
      exact hK _ _ U.heap.size ((KeepsOthers.alloc _ _).from _) (KpS.of_below hb (by omega)) (hi.rl hBR (RlS.of_below hb (by omega))) (heap_alloc_new U _) (by unfold actW valS; simp)
    case body =>
      rintro q pre y b' U ⟨rr, hrr⟩ hq1 hq2 ⟨cur, lv, h1, h2, h3, h4, h5, h6, h7, h8⟩ hbo ⟨cur', i, hjs, hisn⟩
      obtain rfl : cur' = cur := JS.det _ _ rfl _ _ hjs h1
      clear hjs
      have hlen := h1.len
      rw [byL_length] at hlen
      have hlt := mpJ_lt hisn.1
      have hlast := lastR_le HK.out h1 hisn.1
      have hw64 := h1.w64 HMI'.out (byL_w64 s)
      obtain ⟨u0, v0, hu0, hv0, hm0⟩ := isN_parts hisn.1
      have hi0 : 256 ≤ i := by
        obtain ⟨x, hx, -, -, e3⟩ := mergeM_get hm0
        rw [← e3]; exact (HK.out.cut hx).1
      have hi64 := HMI'.out _ _ _ _ hm0
      obtain ⟨n, hnn⟩ : ∃ n, n = cur'.length := ⟨_, rfl⟩
      have HN : Hid (n = cur'.length) := hnn
      have h3s := h3
      obtain ⟨la, lc, hlv, hil⟩ := h3.ins
      have hrb : ∃ rb off, la = some ⟨rb, off, none⟩ ∧ ∀ (j : Nat) (x : Int), cur'[j]? = some x → U.cell? ⟨rb, off + j, none⟩ = some (.int .i64 x) := by
        rcases hil with h | ⟨rb, off, e, hc⟩
        · rw [h] at hlt; simp at hlt
        · exact ⟨rb, off, e, hc⟩
      obtain ⟨rb, off, rfl, hcell⟩ := hrb
      rw [← hnn] at hlen hlt hlv
      have h2s := h2
      rw [hlv] at h2
      have cL := h2.cell
      have cK := h5.cell
      unfold sO at hbo
      have x0 := cell_of_block hbo 0
      have x1 := cell_of_block hbo 1
      simp only [List.getElem?_toArray, List.getElem?_cons_zero, List.getElem?_cons_succ] at x0 x1
      have d1 : decide ((y.2 : Int) < 0) = false := decide_eq_false (by omega)
      have d2 : decide ((n : Int) ≤ (y.2 : Int) + 1) = false := decide_eq_false (by omega)
      have d2' : decide (n ≤ y.2 + 1) = false := decide_eq_false (by omega)
      have d3 : decide ((y.1 : Int) < (lastR pre : Int)) = false := decide_eq_false (by omega)
      have d3' : decide (y.1 < lastR pre) = false := decide_eq_false (by omega)
      have by2 : y.2 ≤ 200 := by omega
      have hM8 := hMd.below h8
      have HLT : Hid (y.2 + 1 < n ∧ n ≤ 200 ∧ lastR pre ≤ y.1) := ⟨hlt, by omega, hlast⟩
      have HIL : Hid (CH.INS U (some ⟨rb, off, none⟩) cur') := hil
      have HNX : Hid (IsN ms cur' y.1 y.2 i) := hisn
      have H1 : Hid (JS ms (byL s) pre cur') := h1
      have H3 : Hid (RowN U w1.heap.size lv cur') := h3s
      have HLV : Hid (lv = .slice (some ⟨rb, off, none⟩) n lc) := hlv
      have H2 : Hid (Boxed U lb 34 (.slice (some ⟨rb, off, none⟩) n lc)) := h2
      have H5 : Hid (Boxed U Lb 3 (.int .i64 (lastR pre : Nat))) := h5
      have H6 : Hid (Boxed U (Lb + 1) 3 (.int .i64 (pre.length : Nat))) := h6
      have H7 : Hid (Boxed U mb 31 (.pointer (some ⟨g, 0, none⟩))) := h7
      have HBO : Hid (U.heap[b']? = some (.cells #[.int .i64 (y.1 : Nat), .int .i64 (y.2 : Nat)] 45 (0, 0))) := hbo
      simp only [actW, List.setIfInBounds_toArray, List.set_cons_succ, List.set_cons_zero]
      clear hrr hbo hnn hlv h3s h2s h3 h2 h5 h6 h7 hil hisn h1 hlast hlt hm0
      gi_wp2_with fail
      gi_loopw [13, 14] (fun v13 v14 wr => ∃ j : Nat, j + 1 ≤ n ∧ v14 = .int .i64 (j : Nat) ∧ v13 = .int .i64 (if y.2 < j then i else -1) ∧ Below U.heap.size U wr) (fun _ v14 _ => n - (intOf v14).toNat)
      case atStart => exact ⟨0, by have := HLT.out; omega, rfl, by rw [if_neg (by omega)], Below.refl _ _⟩
      case round =>
        obtain ⟨j, hj, rfl, rfl, hBr⟩ := hrel
        clear cL cK x0 x1 d1 d2 d2' d3 d3'
        have L2 := boxed_below_s H2.out hBr
        have cL := L2.cell
        by_cases hlt2 : j + 1 < n
        · have hjl : j + 1 < cur'.length := by rw [← HN.out]; exact hlt2
          obtain ⟨u, hu⟩ : ∃ u, cur'[j]? = some u := ⟨_, List.getElem?_eq_getElem (by omega)⟩
          obtain ⟨v, hv⟩ : ∃ v, cur'[j + 1]? = some v := ⟨_, List.getElem?_eq_getElem hjl⟩
          have cu := (hBr.cell (World.block_lt_of_cell? U _ (hcell j u hu))).trans (hcell j u hu)
          have cv := (hBr.cell (World.block_lt_of_cell? U _ (hcell (j + 1) v hv))).trans (hcell (j + 1) v hv)
          have hwu := hw64 u (List.mem_iff_getElem?.2 ⟨_, hu⟩)
          have hwv := hw64 v (List.mem_iff_getElem?.2 ⟨_, hv⟩)
          have M7 := boxed_below_s H7.out hBr
          have cm := M7.cell
          have hMr := hM8.below hBr
          have hmp : mpJ ms cur' j = mergeM ms u v := mpJ_of hu hv
          have d1 : decide ((j : Int) + 1 < (n : Int)) = true := decide_eq_true (by omega)
          have d1' : decide (j + 1 < n) = true := decide_eq_true (by omega)
          have bj : (0 ≤ (j : Int) ∧ (j : Int) < (n : Int)) ∧ (0 ≤ (j : Int) + 1 ∧ (j : Int) + 1 < (n : Int)) ∧ (j : Int) ≤ 200 := by have := HLT.out; omega
          obtain ⟨bj1, bj2, bj3⟩ := bj
          obtain ⟨m, hmd⟩ : ∃ m, m = (if y.2 < j then i else -1) := ⟨_, rfl⟩
          have HMD : Hid (m = (if y.2 < j then i else -1)) := hmd
          rw [← hmd]
          clear hmd
          cases hm : mergeM ms u v with
          | none =>
            have hif : (if y.2 < j + 1 then i else -1) = (if y.2 < j then i else -1) := by
              by_cases h : y.2 < j
              · rw [if_pos h, if_pos (by omega)]
              · rw [if_neg h, if_neg (fun h2 => ?_)]
                obtain rfl : y.2 = j := by omega
                have := HNX.out.1
                rw [hmp, hm] at this
                cases this
            clear hmp hu hv hjl
            have HMm : ∀ U', Below wr.heap.size wr U' → Calls Tryd.prog 24 #[.pointer (some ⟨g, 0, none⟩), .int .i64 u, .int .i64 v] U' fun e w' => e = .returned (.tuple #[.int .i64 0, .int .i64 0, .bool false]) ∧ Below U'.heap.size U' w' := fun U' hb => by
              have h := merge_any g _ ws ms A B C u v U' hwu hwv (hMr.below hb)
              rw [hm] at h
              exact h
            clear hm hMr hwu hwv
            gi_wp2_with fail
            have kL := cell_regrown (w := wr) cL
            have ku := cell_regrown (w := wr) cu
            have kv := cell_regrown (w := wr) cv
            have km := cell_regrown (w := wr) cm
            clear cL cu cv cm
            refine wpIn_region_quiet_tail (C := fun w' => ∃ p : Regrown, w' = grow (redrawn wr p.d) p.os) 17 (by kernel_rfl) (by kernel_rfl) (by kernel_rfl) ⟨⟨_, #[]⟩, by rw [grow_empty]; rfl⟩ ?_
            simp only [List.take_succ_cons, List.take_zero, List.drop_succ_cons, List.drop_zero]
            repeat (gi_big_quiet_step (fail))
            refine wpQuietIn_step (fun _ _ _ _ => trivial) (fun K hK => ?_)
            go_simp
            apply Exists.intro
            refine ⟨fun _ => ?_, hK _ ?_⟩
            · first | exact ⟨fun _ => by omega, CallsIn.regrown_of (CallsIn.inRound _ (callsIn_wide.2 (HMm _ (below_regrown _ _ _))))⟩ | exact CallsIn.regrown_of (CallsIn.inRound _ (callsIn_wide.2 (HMm _ (below_regrown _ _ _))))
            clear hK K
            repeat (gi_big_quiet_step (fail))
            refine wpQuietIn_nil ?_
            intro W5 hw'
            have hb5 : Below wr.heap.size wr W5 := by
              obtain ⟨⟨dq, osq⟩, rfl⟩ := hw'
              exact below_regrown _ _ _
            have hB5 := hBr.trans (hb5.mono hBr.size)
            clear hw' kL ku kv km HMm
            have hbo5 := (hB5.block b' (Array.getElem?_eq_some_iff.1 HBO.out).1).trans HBO.out
            have x0 := cell_of_block hbo5 0
            have x1 := cell_of_block hbo5 1
            simp only [List.getElem?_toArray, List.getElem?_cons_zero, List.getElem?_cons_succ] at x0 x1
            gi_wp2_with fail
            exact ⟨⟨j + 1, by omega, by go_num, by rw [hif, ← HMD.out], hB5⟩, by simp only [intOf]; omega⟩
          | some p =>
            obtain ⟨k', i'⟩ := p
            have hmin : y.1 < k' ∨ (y.1 = k' ∧ y.2 ≤ j) := HNX.out.2 j k' i' (by rw [hmp]; exact hm)
            have hsame : j = y.2 → i' = i := fun e => by
              have := HNX.out.1
              rw [← e, hmp, hm] at this
              simp only [Option.some.injEq, Prod.mk.injEq] at this
              exact this.2
            have hk3 : j = y.2 → k' = y.1 := fun e => by
              have := HNX.out.1
              rw [← e, hmp, hm] at this
              simp only [Option.some.injEq, Prod.mk.injEq] at this
              exact this.1
            clear hmp hu hv hjl
            have HMm : ∀ U', Below wr.heap.size wr U' → Calls Tryd.prog 24 #[.pointer (some ⟨g, 0, none⟩), .int .i64 u, .int .i64 v] U' fun e w' => e = .returned (.tuple #[.int .i64 (k' : Nat), .int .i64 i', .bool true]) ∧ Below U'.heap.size U' w' := fun U' hb => by
              have h := merge_any g _ ws ms A B C u v U' hwu hwv (hMr.below hb)
              rw [hm] at h
              exact h
            clear hm hMr hwu hwv
            gi_wp2_with fail
            have kL := cell_regrown (w := wr) cL
            have ku := cell_regrown (w := wr) cu
            have kv := cell_regrown (w := wr) cv
            have km := cell_regrown (w := wr) cm
            clear cL cu cv cm
            refine wpIn_region_quiet_tail (C := fun w' => ∃ p : Regrown, w' = grow (redrawn wr p.d) p.os) 17 (by kernel_rfl) (by kernel_rfl) (by kernel_rfl) ⟨⟨_, #[]⟩, by rw [grow_empty]; rfl⟩ ?_
            simp only [List.take_succ_cons, List.take_zero, List.drop_succ_cons, List.drop_zero]
            repeat (gi_big_quiet_step (fail))
            refine wpQuietIn_step (fun _ _ _ _ => trivial) (fun K hK => ?_)
            go_simp
            apply Exists.intro
            refine ⟨fun _ => ?_, hK _ ?_⟩
            · first | exact ⟨fun _ => by omega, CallsIn.regrown_of (CallsIn.inRound _ (callsIn_wide.2 (HMm _ (below_regrown _ _ _))))⟩ | exact CallsIn.regrown_of (CallsIn.inRound _ (callsIn_wide.2 (HMm _ (below_regrown _ _ _))))
            clear hK K
            repeat (gi_big_quiet_step (fail))
            refine wpQuietIn_nil ?_
            intro W5 hw'
            have hb5 : Below wr.heap.size wr W5 := by
              obtain ⟨⟨dq, osq⟩, rfl⟩ := hw'
              exact below_regrown _ _ _
            have hB5 := hBr.trans (hb5.mono hBr.size)
            clear hw' kL ku kv km HMm
            have hbo5 := (hB5.block b' (Array.getElem?_eq_some_iff.1 HBO.out).1).trans HBO.out
            have x0 := cell_of_block hbo5 0
            have x1 := cell_of_block hbo5 1
            simp only [List.getElem?_toArray, List.getElem?_cons_zero, List.getElem?_cons_succ] at x0 x1
            have e1 : decide ((k' : Int) < (y.1 : Int)) = false := decide_eq_false (by omega)
            have e1' : decide (k' < y.1) = false := decide_eq_false (by omega)
            by_cases hk1 : k' = y.1
            · have e2 : ((k' : Int) == (y.1 : Int)) = true := by simp; omega
              have e3 : decide ((j : Int) < (y.2 : Int)) = false := decide_eq_false (by omega)
              have e3' : decide (j < y.2) = false := decide_eq_false (by omega)
              by_cases hk2 : j = y.2
              · have e4 : ((j : Int) == (y.2 : Int)) = true := by simp; omega
                have hi' : i' = i := hsame hk2
                rw [hi']
                gi_wp2_with fail
                exact ⟨⟨j + 1, by omega, by go_num, by rw [if_pos (by omega)], hB5⟩, by simp only [intOf]; omega⟩
              · have e4 : ((j : Int) == (y.2 : Int)) = false := by simp; omega
                have hif : (if y.2 < j + 1 then i else -1) = (if y.2 < j then i else -1) := by by_cases h : y.2 < j; rw [if_pos h, if_pos (by omega)]; rw [if_neg h, if_neg (by omega)]
                gi_wp2_with fail
                exact ⟨⟨j + 1, by omega, by go_num, by rw [hif, ← HMD.out], hB5⟩, by simp only [intOf]; omega⟩
            · have e2 : ((k' : Int) == (y.1 : Int)) = false := by simp; omega
              have hj2 : j ≠ y.2 := fun e => hk1 (hk3 e)
              have e4 : ((j : Int) == (y.2 : Int)) = false := by simp; omega
              have hif : (if y.2 < j + 1 then i else -1) = (if y.2 < j then i else -1) := by by_cases h : y.2 < j; rw [if_pos h, if_pos (by omega)]; rw [if_neg h, if_neg (by omega)]
              gi_wp2_with fail
              exact ⟨⟨j + 1, by omega, by go_num, by rw [hif, ← HMD.out], hB5⟩, by simp only [intOf]; omega⟩
        · obtain rfl : n = j + 1 := by omega
          have hyj : y.2 < j := by have := HLT.out.1; omega
          rw [if_pos hyj]
          have d1 : decide ((j : Int) + 1 < ((j + 1 : Nat) : Int)) = false := decide_eq_false (by omega)
          have d4 : decide (i < 0) = false := decide_eq_false (by omega)
          have bj3 : (j : Int) ≤ 200 := by have := HLT.out; omega
          gi_wp2_with fail
          have hcl : j + 1 = cur'.length := HN.out
          have hlc : j + 1 ≤ lc := by
            have e := HLV.out
            rcases H3.out.2 with ⟨e2, _⟩ | ⟨b2, cap, cur2, e2, _, _, hn2, _⟩
            · rw [e] at e2; cases e2
            · rw [e] at e2
              simp only [Value.slice.injEq] at e2
              omega
          have b1 : (0 : Int) ≤ (y.2 : Int) ∧ (y.2 : Int) ≤ (lc : Int) := by omega
          have b2 : (0 : Int) ≤ (y.2 : Int) + 2 ∧ (y.2 : Int) + 2 ≤ ((j + 1 : Nat) : Int) ∧ (y.2 : Int) + 2 ≤ (lc : Int) := by omega
          have hwp : IntKind.i64.wrap ((y.2 : Int) + 2) = (y.2 : Int) + 2 := IntWalk.i64_in _ ⟨by omega, by omega⟩
          have htn : ((y.2 : Int) + 2).toNat = y.2 + 2 := by omega
          have hbo5 := (hBr.block b' (Array.getElem?_eq_some_iff.1 HBO.out).1).trans HBO.out
          have x1 := cell_of_block hbo5 1
          simp only [List.getElem?_toArray, List.getElem?_cons_zero, List.getElem?_cons_succ] at x1
          have hcw : ∀ (j' : Nat) (x : Int), cur'[j']? = some x → wr.cell? ⟨rb, off + j', none⟩ = some (.int .i64 x) := fun j' x hx => (hBr.cell (World.block_lt_of_cell? U _ (hcell j' x hx))).trans (hcell j' x hx)
          have hS : ∀ W', Below wr.heap.size wr W' → W'.cell? ⟨lb, 0, none⟩ = some (.slice (some ⟨rb, off, none⟩) (j + 1) lc) ∧ W'.cell? ⟨b', 1, none⟩ = some (.int .i64 (y.2 : Nat)) := fun W' hb =>
            ⟨(hb.cell (p := ⟨lb, 0, none⟩) L2.lt).trans cL, (hb.cell (p := ⟨b', 1, none⟩) (Array.getElem?_eq_some_iff.1 hbo5).1).trans x1⟩
          obtain ⟨x2, hx2⟩ : ∃ x2, x2 = (if lc = y.2 + 2 then some (⟨rb, off, none⟩ : Addr) else some ⟨rb, off + (y.2 + 2), none⟩) := ⟨_, rfl⟩
          have hI1 := INS.take' hcw y.2
          have hI2 : CH.INS wr x2 (cur'.drop (y.2 + 2)) := by
            rw [hx2]
            by_cases h : lc = y.2 + 2
            · exact .inl (List.drop_eq_nil_of_le (by omega))
            · rw [if_neg h]; exact INS.drop' hcw (y.2 + 2)
          have hlt1 : y.2 = (cur'.take y.2).length := by rw [List.length_take]; omega
          have hld : j + 1 - (y.2 + 2) = (cur'.drop (y.2 + 2)).length := by rw [List.length_drop]; omega
          have hlt2 : (cur'.take y.2).length ≤ 200 ∧ (cur'.drop (y.2 + 2)).length ≤ 200 := by omega
          have HL1 : Hid (y.2 = (cur'.take y.2).length) := hlt1
          have HLD : Hid (j + 1 - (y.2 + 2) = (cur'.drop (y.2 + 2)).length) := hld
          have HX2 : Hid (x2 = (if lc = y.2 + 2 then some (⟨rb, off, none⟩ : Addr) else some ⟨rb, off + (y.2 + 2), none⟩)) := hx2
          have HWP : Hid (IntKind.i64.wrap ((y.2 : Int) + 2) = (y.2 : Int) + 2) := hwp
          have HTN : Hid (((y.2 : Int) + 2).toNat = y.2 + 2) := htn
          clear hlt1 hld hx2 hwp htn hcl
          refine wpIn_named f26 (R26 wr lb (cur'.take y.2 ++ [i] ++ cur'.drop (y.2 + 2))) ?_ ?_
          · have Bu0 : Below wr.heap.size wr wr.drew := (Below.refl _ wr).drew
            refine wpIn_region_heldtail 15 (fun w' : World => w'.cell? ⟨lb, 0, none⟩ = some (.slice (some ⟨rb, off, none⟩) (j + 1) lc) ∧ w'.cell? ⟨b', 1, none⟩ = some (.int .i64 (y.2 : Nat))) (by kernel_rfl) (by kernel_rfl) (by kernel_rfl) (fun ⟨_, _, h⟩ => nomatch h.1) ?_
            obtain ⟨u0, hu0⟩ : ∃ u0, u0 = wr.drew := ⟨_, rfl⟩
            rw [← hu0] at Bu0 ⊢
            have hS0 := hS _ Bu0
            clear hu0 d1 d4 cL x1
            refine HL_take (i := 1) (.slice (some ⟨rb, off, none⟩) (j + 1) lc) (by kernel_rfl) rfl (by omega) (by kernel_rfl) (by kernel_rfl) (by kernel_rfl) (fun _ _ _ h => QN.no h) (.inl ⟨by kernel_rfl, fun w' hw' => by obtain ⟨q0, q1⟩ := hw'; go_simp⟩) hS0 ?_
            simp only [Act.put, List.getElem_toArray, List.getElem_cons_zero, List.getElem_cons_succ, List.setIfInBounds_toArray, List.set_cons_zero, List.set_cons_succ]
            refine HL_take (i := 2) (.pointer (some ⟨b', 1, none⟩)) (by kernel_rfl) rfl (by omega) (by kernel_rfl) (by kernel_rfl) (by kernel_rfl) (fun _ _ _ h => QN.no h) (.inl ⟨by kernel_rfl, fun w' hw' => by obtain ⟨q0, q1⟩ := hw'; go_simp⟩) hS0 ?_
            simp only [Act.put, List.getElem_toArray, List.getElem_cons_zero, List.getElem_cons_succ, List.setIfInBounds_toArray, List.set_cons_zero, List.set_cons_succ]
            refine HL_take (i := 3) (.int .i64 (y.2 : Nat)) (by kernel_rfl) rfl (by omega) (by kernel_rfl) (by kernel_rfl) (by kernel_rfl) (fun _ _ _ h => QN.no h) (.inl ⟨by kernel_rfl, fun w' hw' => by obtain ⟨q0, q1⟩ := hw'; go_simp⟩) hS0 ?_
            simp only [Act.put, List.getElem_toArray, List.getElem_cons_zero, List.getElem_cons_succ, List.setIfInBounds_toArray, List.set_cons_zero, List.set_cons_succ]
            refine HL_take (i := 6) (.int .i64 i) (by kernel_rfl) rfl (by omega) (by kernel_rfl) (by kernel_rfl) (by kernel_rfl) (fun _ _ _ h => QN.no h) (.inl ⟨by kernel_rfl, fun w' hw' => by obtain ⟨q0, q1⟩ := hw'; go_simp⟩) hS0 ?_
            simp only [Act.put, List.getElem_toArray, List.getElem_cons_zero, List.getElem_cons_succ, List.setIfInBounds_toArray, List.set_cons_zero, List.set_cons_succ]
            refine HL_take (i := 9) (.slice (some ⟨rb, off, none⟩) (j + 1) lc) (by kernel_rfl) rfl (by omega) (by kernel_rfl) (by kernel_rfl) (by kernel_rfl) (fun _ _ _ h => QN.no h) (.inl ⟨by kernel_rfl, fun w' hw' => by obtain ⟨q0, q1⟩ := hw'; go_simp⟩) hS0 ?_
            simp only [Act.put, List.getElem_toArray, List.getElem_cons_zero, List.getElem_cons_succ, List.setIfInBounds_toArray, List.set_cons_zero, List.set_cons_succ]
            refine HL_take (i := 10) (.pointer (some ⟨b', 1, none⟩)) (by kernel_rfl) rfl (by omega) (by kernel_rfl) (by kernel_rfl) (by kernel_rfl) (fun _ _ _ h => QN.no h) (.inl ⟨by kernel_rfl, fun w' hw' => by obtain ⟨q0, q1⟩ := hw'; go_simp⟩) hS0 ?_
            simp only [Act.put, List.getElem_toArray, List.getElem_cons_zero, List.getElem_cons_succ, List.setIfInBounds_toArray, List.set_cons_zero, List.set_cons_succ]
            refine HL_take (i := 11) (.int .i64 (y.2 : Nat)) (by kernel_rfl) rfl (by omega) (by kernel_rfl) (by kernel_rfl) (by kernel_rfl) (fun _ _ _ h => QN.no h) (.inl ⟨by kernel_rfl, fun w' hw' => by obtain ⟨q0, q1⟩ := hw'; go_simp⟩) hS0 ?_
            simp only [Act.put, List.getElem_toArray, List.getElem_cons_zero, List.getElem_cons_succ, List.setIfInBounds_toArray, List.set_cons_zero, List.set_cons_succ]
            refine HL_take (i := 12) (.int .i64 ((y.2 : Int) + 2)) (by kernel_rfl) rfl (by omega) (by kernel_rfl) (by kernel_rfl) (by kernel_rfl) (fun _ _ _ h => QN.no h) (.inl ⟨by kernel_rfl, fun w' hw' => by obtain ⟨q0, q1⟩ := hw'; go_simp; first | done | exact HWP.out⟩) hS0 ?_
            simp only [Act.put, List.getElem_toArray, List.getElem_cons_zero, List.getElem_cons_succ, List.setIfInBounds_toArray, List.set_cons_zero, List.set_cons_succ]
            refine HL_take (i := 4) (.slice (some ⟨rb, off, none⟩) y.2 lc) (by kernel_rfl) rfl (by omega) (by kernel_rfl) (by kernel_rfl) (by kernel_rfl) (fun _ _ _ h => QN.no h) (.inl ⟨by kernel_rfl, fun w' hw' => by obtain ⟨q0, q1⟩ := hw'; go_simp⟩) hS0 ?_
            simp only [Act.put, List.getElem_toArray, List.getElem_cons_zero, List.getElem_cons_succ, List.setIfInBounds_toArray, List.set_cons_zero, List.set_cons_succ]
            refine HL_take (i := 13) (.slice x2 (j + 1 - (y.2 + 2)) (lc - (y.2 + 2))) (by kernel_rfl) rfl (by omega) (by kernel_rfl) (by kernel_rfl) (by kernel_rfl) (fun _ _ _ h => QN.no h) (.inl ⟨by kernel_rfl, fun w' hw' => by obtain ⟨q0, q1⟩ := hw'; go_simp; rw [if_pos (by omega), HTN.out, ← HX2.out, show j + 1 - (y.2 + 2) = j - (y.2 + 1) from by omega]⟩) hS0 ?_
            simp only [Act.put, List.getElem_toArray, List.getElem_cons_zero, List.getElem_cons_succ, List.setIfInBounds_toArray, List.set_cons_zero, List.set_cons_succ]
            refine HL_two (i := 0) (j := 7) rfl rfl (by omega) (by omega) (by kernel_rfl) rfl rfl ?_ ?_
            · refine wp_value (v := .slice (some ⟨u0.heap.size, 0, none⟩) 0 0) (w' := u0.alloc (.cells #[] 3)) (by go_simp) ?_
              obtain ⟨u1, hu1⟩ : ∃ V, V = u0.alloc (.cells #[] 3) := ⟨_, rfl⟩
              have hbu1 : Below u0.heap.size u0 u1 := by rw [hu1]; exact (Below.refl _ u0).alloc (Nat.le_refl _) _
              have Bu1 : Below wr.heap.size wr u1 := Bu0.trans (hbu1.mono Bu0.size)
              have N1 : RowN u1 wr.heap.size (.slice (some ⟨u0.heap.size, 0, none⟩) 0 0) [] := by rw [hu1]; exact (own0 u0).low Bu0.size
              have su1 : u1.heap.size = u0.heap.size + 1 := by rw [hu1]; simp
              rw [← hu1]
              refine ⟨hS _ Bu1, ?_⟩
              simp only [Act.put, List.getElem_toArray, List.getElem_cons_zero, List.getElem_cons_succ, List.setIfInBounds_toArray, List.set_cons_zero, List.set_cons_succ]
              clear hu1
              obtain ⟨rb0, hrb0⟩ : ∃ r, r = u0.heap.size := ⟨_, rfl⟩
              rw [← hrb0] at N1 ⊢
              refine HL_two (i := 5) (j := 7) rfl rfl (by omega) (by omega) (by kernel_rfl) rfl rfl ?_ ?_
              · obtain ⟨v2, u2, hr, N2, hg2, hn2, hbb⟩ := cat3 u1 wr.heap.size _ 0 i (some ⟨rb, off, none⟩) none lc y.2 0 0 (cur'.take y.2) [] HL1.out rfl Bu1.size N1 (by simp [Value.ownBlock]) (INS.below' hI1 Bu1) (by rw [List.length_nil]; omega)
                have Bu2 : Below wr.heap.size wr u2 := Bu1.trans hbb
                refine wp_append (.tmp 117) (.tmp 121) 34 34 rfl _ _ rfl rfl (fun v' w' => v' = v2 ∧ w' = u2) ⟨_, _, hr, rfl, rfl⟩ ?_
                rintro v' w' ⟨e1, e2⟩
                rw [e1, e2]
                clear e1 e2 v' w'
                refine ⟨hS _ Bu2, ?_⟩
                simp only [Act.put, List.getElem_toArray, List.getElem_cons_zero, List.getElem_cons_succ, List.setIfInBounds_toArray, List.set_cons_zero, List.set_cons_succ]
                clear hr
                refine HL_one (i := 7) rfl (by omega) (by kernel_rfl) rfl ?_
                refine wp_value (v := .slice (some ⟨u2.heap.size, 0, none⟩) 1 1) (w' := u2.alloc (.cells #[.int .i64 i] 3)) (by go_simp) ?_
                obtain ⟨u3, hu3⟩ : ∃ V, V = u2.alloc (.cells #[.int .i64 i] 3) := ⟨_, rfl⟩
                have hbu3 : Below u2.heap.size u2 u3 := by rw [hu3]; exact (Below.refl _ u2).alloc (Nat.le_refl _) _
                have Bu3 : Below wr.heap.size wr u3 := Bu2.trans (hbu3.mono Bu2.size)
                have P1 : u3.heap[u2.heap.size]? = some (.cells #[.int .i64 i] 3 (0, 0)) := by rw [hu3]; exact heap_alloc_new u2 _
                have su3 : u3.heap.size = u2.heap.size + 1 := by rw [hu3]; simp
                rw [← hu3]
                refine ⟨hS _ Bu3, ?_⟩
                simp only [Act.put, List.getElem_toArray, List.getElem_cons_zero, List.getElem_cons_succ, List.setIfInBounds_toArray, List.set_cons_zero, List.set_cons_succ]
                clear hu3
                obtain ⟨pb, hpb⟩ : ∃ r, r = u2.heap.size := ⟨_, rfl⟩
                rw [← hpb] at P1 ⊢
                have N2 := N2.below hbu3
                refine HL_one (i := 8) rfl (by omega) (by kernel_rfl) rfl ?_
                obtain ⟨v3, u4, hr, N3, hg3, -⟩ := run_pushN u3 wr.heap.size v2 (cur'.take y.2) i pb N2 P1 Bu3.size (by omega)
                have Bu4 : Below wr.heap.size wr u4 := Bu3.trans (N2.grown hg3 Bu3.size)
                have hn3 := N3.nn (by simp)
                refine wp_append (.tmp 122) (.tmp 124) 34 34 rfl _ _ rfl rfl (fun v' w' => v' = v3 ∧ w' = u4) ⟨_, _, hr, rfl, rfl⟩ ?_
                rintro v' w' ⟨e1, e2⟩
                rw [e1, e2]
                clear e1 e2 v' w'
                refine ⟨hS _ Bu4, ?_⟩
                simp only [Act.put, List.getElem_toArray, List.getElem_cons_zero, List.getElem_cons_succ, List.setIfInBounds_toArray, List.set_cons_zero, List.set_cons_succ]
                clear hr
                refine HL_one (i := 14) rfl (by omega) (by kernel_rfl) rfl ?_
                obtain ⟨v4, u5, hr, N4, hg4, hn4⟩ := run_catG u4 wr.heap.size v3 (cur'.take y.2 ++ [i]) x2 (lc - (y.2 + 2)) (j + 1 - (y.2 + 2)) (cur'.drop (y.2 + 2)) HLD.out N3 (INS.below' hI2 Bu4) hn3 Bu4.size (by simp only [List.length_append, List.length_cons, List.length_nil]; omega)
                have Bu5 : Below wr.heap.size wr u5 := Bu4.trans (N3.grown hg4 Bu4.size)
                refine wp_append (.tmp 125) (.tmp 130) 34 34 rfl _ _ rfl rfl (fun v' w' => v' = v4 ∧ w' = u5) ⟨_, _, hr, rfl, rfl⟩ ?_
                rintro v' w' ⟨e1, e2⟩
                rw [e1, e2]
                clear e1 e2 v' w'
                refine ⟨hS _ Bu5, ?_⟩
                simp only [Act.put, List.getElem_toArray, List.getElem_cons_zero, List.getElem_cons_succ, List.setIfInBounds_toArray, List.set_cons_zero, List.set_cons_succ]
                clear hr
                refine ⟨by kernel_rfl, ?_⟩
                simp only [List.drop_succ_cons, List.drop_zero]
                have L9 := boxed_below_s L2 Bu5
                have c9 := L9.cell
                have f9 := L9.frozen
                obtain ⟨a4, c4, rfl, -⟩ := N4.ins
                obtain ⟨n4, hn4l⟩ : ∃ n4, n4 = (cur'.take y.2 ++ [i] ++ cur'.drop (y.2 + 2)).length := ⟨_, rfl⟩
                rw [← hn4l] at N4 ⊢
                clear hn4l
                go_wp2_with fail
                refine ⟨rfl, [.slice (some ⟨rb0, 0, none⟩) 0 0, .slice (some ⟨rb, off, none⟩) (j + 1) lc, .pointer (some ⟨b', 1, none⟩), .int .i64 (y.2 : Nat), .slice (some ⟨rb, off, none⟩) y.2 lc, v2, .int .i64 i, .slice (some ⟨pb, 0, none⟩) 1 1, v3, .slice (some ⟨rb, off, none⟩) (j + 1) lc, .pointer (some ⟨b', 1, none⟩), .int .i64 (y.2 : Nat), .int .i64 ((y.2 : Int) + 2), .slice x2 (j + 1 - (y.2 + 2)) (lc - (y.2 + 2)), .slice a4 n4 c4], ?_, R26.mk rfl N4 Bu5 L9 L2.lt⟩
                simp only [f26, List.getD_cons_zero, List.getD_cons_succ, List.setIfInBounds_toArray, List.set_cons_succ, List.set_cons_zero]
              · refine wp_value (v := .slice (some ⟨u1.heap.size, 0, none⟩) 1 1) (w' := u1.alloc (.cells #[.int .i64 i] 3)) (by go_simp) ?_
                obtain ⟨u2, hu2⟩ : ∃ V, V = u1.alloc (.cells #[.int .i64 i] 3) := ⟨_, rfl⟩
                have hbu2 : Below u1.heap.size u1 u2 := by rw [hu2]; exact (Below.refl _ u1).alloc (Nat.le_refl _) _
                have Bu2 : Below wr.heap.size wr u2 := Bu1.trans (hbu2.mono Bu1.size)
                have P1 : u2.heap[u1.heap.size]? = some (.cells #[.int .i64 i] 3 (0, 0)) := by rw [hu2]; exact heap_alloc_new u1 _
                have su2 : u2.heap.size = u1.heap.size + 1 := by rw [hu2]; simp
                rw [← hu2]
                refine ⟨hS _ Bu2, ?_⟩
                simp only [Act.put, List.getElem_toArray, List.getElem_cons_zero, List.getElem_cons_succ, List.setIfInBounds_toArray, List.set_cons_zero, List.set_cons_succ]
                clear hu2
                obtain ⟨pb, hpb⟩ : ∃ r, r = u1.heap.size := ⟨_, rfl⟩
                rw [← hpb] at P1 ⊢
                have N1 := N1.below hbu2
                refine HL_one (i := 5) rfl (by omega) (by kernel_rfl) rfl ?_
                obtain ⟨v2, u3, hr, N2, hg2, hn2, hbb⟩ := cat3 u2 wr.heap.size _ 0 i (some ⟨rb, off, none⟩) none lc y.2 0 0 (cur'.take y.2) [] HL1.out rfl Bu2.size N1 (by simp [Value.ownBlock]) (INS.below' hI1 Bu2) (by rw [List.length_nil]; omega)
                have Bu3 : Below wr.heap.size wr u3 := Bu2.trans hbb
                refine wp_append (.tmp 117) (.tmp 121) 34 34 rfl _ _ rfl rfl (fun v' w' => v' = v2 ∧ w' = u3) ⟨_, _, hr, rfl, rfl⟩ ?_
                rintro v' w' ⟨e1, e2⟩
                rw [e1, e2]
                clear e1 e2 v' w'
                refine ⟨hS _ Bu3, ?_⟩
                simp only [Act.put, List.getElem_toArray, List.getElem_cons_zero, List.getElem_cons_succ, List.setIfInBounds_toArray, List.set_cons_zero, List.set_cons_succ]
                clear hr
                have P1 := (hg2.block pb (by omega) (fun e => by have e2 : pb = rb0 := Option.some.inj e; omega)).trans P1
                refine HL_one (i := 8) rfl (by omega) (by kernel_rfl) rfl ?_
                obtain ⟨v3, u4, hr, N3, hg3, -⟩ := run_pushN u3 wr.heap.size v2 (cur'.take y.2) i pb N2 P1 Bu3.size (by omega)
                have Bu4 : Below wr.heap.size wr u4 := Bu3.trans (N2.grown hg3 Bu3.size)
                have hn3 := N3.nn (by simp)
                refine wp_append (.tmp 122) (.tmp 124) 34 34 rfl _ _ rfl rfl (fun v' w' => v' = v3 ∧ w' = u4) ⟨_, _, hr, rfl, rfl⟩ ?_
                rintro v' w' ⟨e1, e2⟩
                rw [e1, e2]
                clear e1 e2 v' w'
                refine ⟨hS _ Bu4, ?_⟩
                simp only [Act.put, List.getElem_toArray, List.getElem_cons_zero, List.getElem_cons_succ, List.setIfInBounds_toArray, List.set_cons_zero, List.set_cons_succ]
                clear hr
                refine HL_one (i := 14) rfl (by omega) (by kernel_rfl) rfl ?_
                obtain ⟨v4, u5, hr, N4, hg4, hn4⟩ := run_catG u4 wr.heap.size v3 (cur'.take y.2 ++ [i]) x2 (lc - (y.2 + 2)) (j + 1 - (y.2 + 2)) (cur'.drop (y.2 + 2)) HLD.out N3 (INS.below' hI2 Bu4) hn3 Bu4.size (by simp only [List.length_append, List.length_cons, List.length_nil]; omega)
                have Bu5 : Below wr.heap.size wr u5 := Bu4.trans (N3.grown hg4 Bu4.size)
                refine wp_append (.tmp 125) (.tmp 130) 34 34 rfl _ _ rfl rfl (fun v' w' => v' = v4 ∧ w' = u5) ⟨_, _, hr, rfl, rfl⟩ ?_
                rintro v' w' ⟨e1, e2⟩
                rw [e1, e2]
                clear e1 e2 v' w'
                refine ⟨hS _ Bu5, ?_⟩
                simp only [Act.put, List.getElem_toArray, List.getElem_cons_zero, List.getElem_cons_succ, List.setIfInBounds_toArray, List.set_cons_zero, List.set_cons_succ]
                clear hr
                refine ⟨by kernel_rfl, ?_⟩
                simp only [List.drop_succ_cons, List.drop_zero]
                have L9 := boxed_below_s L2 Bu5
                have c9 := L9.cell
                have f9 := L9.frozen
                obtain ⟨a4, c4, rfl, -⟩ := N4.ins
                obtain ⟨n4, hn4l⟩ : ∃ n4, n4 = (cur'.take y.2 ++ [i] ++ cur'.drop (y.2 + 2)).length := ⟨_, rfl⟩
                rw [← hn4l] at N4 ⊢
                clear hn4l
                go_wp2_with fail
                refine ⟨rfl, [.slice (some ⟨rb0, 0, none⟩) 0 0, .slice (some ⟨rb, off, none⟩) (j + 1) lc, .pointer (some ⟨b', 1, none⟩), .int .i64 (y.2 : Nat), .slice (some ⟨rb, off, none⟩) y.2 lc, v2, .int .i64 i, .slice (some ⟨pb, 0, none⟩) 1 1, v3, .slice (some ⟨rb, off, none⟩) (j + 1) lc, .pointer (some ⟨b', 1, none⟩), .int .i64 (y.2 : Nat), .int .i64 ((y.2 : Int) + 2), .slice x2 (j + 1 - (y.2 + 2)) (lc - (y.2 + 2)), .slice a4 n4 c4], ?_, R26.mk rfl N4 Bu5 L9 L2.lt⟩
                simp only [f26, List.getD_cons_zero, List.getD_cons_succ, List.setIfInBounds_toArray, List.set_cons_succ, List.set_cons_zero]
            · refine wp_value (v := .slice (some ⟨u0.heap.size, 0, none⟩) 1 1) (w' := u0.alloc (.cells #[.int .i64 i] 3)) (by go_simp) ?_
              obtain ⟨u1, hu1⟩ : ∃ V, V = u0.alloc (.cells #[.int .i64 i] 3) := ⟨_, rfl⟩
              have hbu1 : Below u0.heap.size u0 u1 := by rw [hu1]; exact (Below.refl _ u0).alloc (Nat.le_refl _) _
              have Bu1 : Below wr.heap.size wr u1 := Bu0.trans (hbu1.mono Bu0.size)
              have P1 : u1.heap[u0.heap.size]? = some (.cells #[.int .i64 i] 3 (0, 0)) := by rw [hu1]; exact heap_alloc_new u0 _
              have su1 : u1.heap.size = u0.heap.size + 1 := by rw [hu1]; simp
              rw [← hu1]
              refine ⟨hS _ Bu1, ?_⟩
              simp only [Act.put, List.getElem_toArray, List.getElem_cons_zero, List.getElem_cons_succ, List.setIfInBounds_toArray, List.set_cons_zero, List.set_cons_succ]
              clear hu1
              obtain ⟨pb, hpb⟩ : ∃ r, r = u0.heap.size := ⟨_, rfl⟩
              rw [← hpb] at P1 ⊢
              refine HL_one (i := 0) rfl (by omega) (by kernel_rfl) rfl ?_
              refine wp_value (v := .slice (some ⟨u1.heap.size, 0, none⟩) 0 0) (w' := u1.alloc (.cells #[] 3)) (by go_simp) ?_
              obtain ⟨u2, hu2⟩ : ∃ V, V = u1.alloc (.cells #[] 3) := ⟨_, rfl⟩
              have hbu2 : Below u1.heap.size u1 u2 := by rw [hu2]; exact (Below.refl _ u1).alloc (Nat.le_refl _) _
              have Bu2 : Below wr.heap.size wr u2 := Bu1.trans (hbu2.mono Bu1.size)
              have N1 : RowN u2 wr.heap.size (.slice (some ⟨u1.heap.size, 0, none⟩) 0 0) [] := by rw [hu2]; exact (own0 u1).low Bu1.size
              have su2 : u2.heap.size = u1.heap.size + 1 := by rw [hu2]; simp
              rw [← hu2]
              refine ⟨hS _ Bu2, ?_⟩
              simp only [Act.put, List.getElem_toArray, List.getElem_cons_zero, List.getElem_cons_succ, List.setIfInBounds_toArray, List.set_cons_zero, List.set_cons_succ]
              clear hu2
              obtain ⟨rb0, hrb0⟩ : ∃ r, r = u1.heap.size := ⟨_, rfl⟩
              rw [← hrb0] at N1 ⊢
              have P1 := (hbu2.block pb (by omega)).trans P1
              refine HL_one (i := 5) rfl (by omega) (by kernel_rfl) rfl ?_
              obtain ⟨v2, u3, hr, N2, hg2, hn2, hbb⟩ := cat3 u2 wr.heap.size _ 0 i (some ⟨rb, off, none⟩) none lc y.2 0 0 (cur'.take y.2) [] HL1.out rfl Bu2.size N1 (by simp [Value.ownBlock]) (INS.below' hI1 Bu2) (by rw [List.length_nil]; omega)
              have Bu3 : Below wr.heap.size wr u3 := Bu2.trans hbb
              refine wp_append (.tmp 117) (.tmp 121) 34 34 rfl _ _ rfl rfl (fun v' w' => v' = v2 ∧ w' = u3) ⟨_, _, hr, rfl, rfl⟩ ?_
              rintro v' w' ⟨e1, e2⟩
              rw [e1, e2]
              clear e1 e2 v' w'
              refine ⟨hS _ Bu3, ?_⟩
              simp only [Act.put, List.getElem_toArray, List.getElem_cons_zero, List.getElem_cons_succ, List.setIfInBounds_toArray, List.set_cons_zero, List.set_cons_succ]
              clear hr
              have P1 := (hg2.block pb (by omega) (fun e => by have e2 : pb = rb0 := Option.some.inj e; omega)).trans P1
              refine HL_one (i := 8) rfl (by omega) (by kernel_rfl) rfl ?_
              obtain ⟨v3, u4, hr, N3, hg3, -⟩ := run_pushN u3 wr.heap.size v2 (cur'.take y.2) i pb N2 P1 Bu3.size (by omega)
              have Bu4 : Below wr.heap.size wr u4 := Bu3.trans (N2.grown hg3 Bu3.size)
              have hn3 := N3.nn (by simp)
              refine wp_append (.tmp 122) (.tmp 124) 34 34 rfl _ _ rfl rfl (fun v' w' => v' = v3 ∧ w' = u4) ⟨_, _, hr, rfl, rfl⟩ ?_
              rintro v' w' ⟨e1, e2⟩
              rw [e1, e2]
              clear e1 e2 v' w'
              refine ⟨hS _ Bu4, ?_⟩
              simp only [Act.put, List.getElem_toArray, List.getElem_cons_zero, List.getElem_cons_succ, List.setIfInBounds_toArray, List.set_cons_zero, List.set_cons_succ]
              clear hr
              refine HL_one (i := 14) rfl (by omega) (by kernel_rfl) rfl ?_
              obtain ⟨v4, u5, hr, N4, hg4, hn4⟩ := run_catG u4 wr.heap.size v3 (cur'.take y.2 ++ [i]) x2 (lc - (y.2 + 2)) (j + 1 - (y.2 + 2)) (cur'.drop (y.2 + 2)) HLD.out N3 (INS.below' hI2 Bu4) hn3 Bu4.size (by simp only [List.length_append, List.length_cons, List.length_nil]; omega)
              have Bu5 : Below wr.heap.size wr u5 := Bu4.trans (N3.grown hg4 Bu4.size)
              refine wp_append (.tmp 125) (.tmp 130) 34 34 rfl _ _ rfl rfl (fun v' w' => v' = v4 ∧ w' = u5) ⟨_, _, hr, rfl, rfl⟩ ?_
              rintro v' w' ⟨e1, e2⟩
              rw [e1, e2]
              clear e1 e2 v' w'
              refine ⟨hS _ Bu5, ?_⟩
              simp only [Act.put, List.getElem_toArray, List.getElem_cons_zero, List.getElem_cons_succ, List.setIfInBounds_toArray, List.set_cons_zero, List.set_cons_succ]
              clear hr
              refine ⟨by kernel_rfl, ?_⟩
              simp only [List.drop_succ_cons, List.drop_zero]
              have L9 := boxed_below_s L2 Bu5
              have c9 := L9.cell
              have f9 := L9.frozen
              obtain ⟨a4, c4, rfl, -⟩ := N4.ins
              obtain ⟨n4, hn4l⟩ : ∃ n4, n4 = (cur'.take y.2 ++ [i] ++ cur'.drop (y.2 + 2)).length := ⟨_, rfl⟩
              rw [← hn4l] at N4 ⊢
              clear hn4l
              go_wp2_with fail
              refine ⟨rfl, [.slice (some ⟨rb0, 0, none⟩) 0 0, .slice (some ⟨rb, off, none⟩) (j + 1) lc, .pointer (some ⟨b', 1, none⟩), .int .i64 (y.2 : Nat), .slice (some ⟨rb, off, none⟩) y.2 lc, v2, .int .i64 i, .slice (some ⟨pb, 0, none⟩) 1 1, v3, .slice (some ⟨rb, off, none⟩) (j + 1) lc, .pointer (some ⟨b', 1, none⟩), .int .i64 (y.2 : Nat), .int .i64 ((y.2 : Int) + 2), .slice x2 (j + 1 - (y.2 + 2)) (lc - (y.2 + 2)), .slice a4 n4 c4], ?_, R26.mk rfl N4 Bu5 L9 L2.lt⟩
              simp only [f26, List.getD_cons_zero, List.getD_cons_succ, List.setIfInBounds_toArray, List.set_cons_succ, List.set_cons_zero]
          · rintro vs W ⟨hRN, hLB, hGW⟩
            simp only [f26, List.setIfInBounds_toArray, List.set_cons_succ, List.set_cons_zero]
            have hUq : V.heap.size + 2 ≤ U.heap.size := Nat.le_trans hq1 hq2
            have hUr := hBr.size
            have hWs := hGW.size
            have hWk : ∀ k, k < wr.heap.size → k ≠ lb → W.heap[k]? = wr.heap[k]? := fun k h1 h2 => hGW.block k h1 (fun e => h2 (Option.some.inj e))
            have hbl : b' ≠ lb := fun e => by
              subst e
              rw [show wr.heap[b']? = _ from L2] at hbo5
              injection hbo5 with hbo5
              injection hbo5 with _ ht _
              exact absurd ht (by decide)
            have hbo6 := (hWk b' (Array.getElem?_eq_some_iff.1 hbo5).1 hbl).trans hbo5
            have z0 := cell_of_block hbo6 0
            simp only [List.getElem?_toArray, List.getElem?_cons_zero] at z0
            have K6 : Boxed W Lb 3 (.int .i64 (lastR pre : Nat)) := (hWk _ (by omega) (by omega)).trans (boxed_below_s H5.out hBr)
            have N6 : Boxed W (Lb + 1) 3 (.int .i64 (pre.length : Nat)) := (hWk _ (by omega) (by omega)).trans (boxed_below_s H6.out hBr)
            have M6 : Boxed W mb 31 (.pointer (some ⟨g, 0, none⟩)) := (hWk _ (by omega) (by omega)).trans (boxed_below_s H7.out hBr)
            have k5 := K6.cell
            have k6 := K6.frozen
            have m5 := N6.cell
            have m6 := N6.frozen
            have hpl : pre.length ≤ 200 := by omega
            have h8r := h8.trans (hBr.mono (by omega))
            have e1 : (((pre ++ [y]).length : Nat) : Int) = (pre.length : Int) + 1 := by simp
            have hfin : KeepsFrom V.heap.size U ((W.setCell ⟨Lb, 0, none⟩ (.int .i64 (y.1 : Nat))).setCell ⟨Lb + 1, 0, none⟩ (.int .i64 ((pre.length : Int) + 1))) ∧ KpS w1.heap.size (V.heap.size + 2) U ((W.setCell ⟨Lb, 0, none⟩ (.int .i64 (y.1 : Nat))).setCell ⟨Lb + 1, 0, none⟩ (.int .i64 ((pre.length : Int) + 1))) ∧ IW ms s w1 mb lb Lb V.heap.size g q (pre ++ [y]) ((W.setCell ⟨Lb, 0, none⟩ (.int .i64 (y.1 : Nat))).setCell ⟨Lb + 1, 0, none⟩ (.int .i64 ((pre.length : Int) + 1))) := by
              refine ⟨?_, ?_, ?_⟩
              · exact kf_chain (kf_chain ((keepsOthers_below_s hBr).from _) (KeepsFrom.of_grownBy hGW (fun j e => by cases e; omega))) (((KeepsOthers.setCell _ _ _).trans (KeepsOthers.setCell _ _ _)).from _)
              · refine ((KpS.of_below hBr (by omega)).trans (KpS.of_grown hGW (by omega) (fun r e => ?_))).trans ((KpS.setBox K6 (by omega) (by omega) _).trans (KpS.setBox (N6.other (by omega) _) (by omega) (by omega) _))
                cases e
                refine ⟨by omega, by omega, fun o ho ⟨_, _, he⟩ => ?_⟩
                rw [show wr.heap[lb]? = _ from L2] at ho
                rw [← Option.some.inj ho] at he
                injection he with _ ht _
                exact absurd ht (by decide)
              · refine ⟨repl cur' y.2 i, vs.getD 14 undef, H1.out.snoc HNX.out, (hLB.other (by omega) _).other (by omega) _, ?_, fun k hk => .inr ?_, ?_, ?_, (M6.other (by omega) _).other (by omega) _, ?_⟩
                · rw [(repl_parts hu0 hv0).2]
                  have h := (hRN.kept (w' := (W.setCell ⟨Lb, 0, none⟩ (.int .i64 (y.1 : Nat))).setCell ⟨Lb + 1, 0, none⟩ (.int .i64 ((pre.length : Int) + 1))) (fun k o hk ho _ => (Below.heap_setCell _ ⟨Lb + 1, 0, none⟩ _ k (fun e => by have e' : k = Lb + 1 := e; omega)).trans ((Below.heap_setCell W ⟨Lb, 0, none⟩ _ k (fun e => by have e' : k = Lb := e; omega)).trans ho))).low (base' := w1.heap.size) (by omega)
                  rw [List.append_assoc] at h
                  exact h
                · have := (World.ownsRow.lt hRN k hk).1
                  omega
                · rw [lastR_snoc]; exact (K6.set _).other (by omega) _
                · rw [e1]; exact (N6.other (by omega) _).set _
                · exact ((grown_b h8r hGW (by omega) (fun r e => by cases e; omega)).setCell (p := ⟨Lb, 0, none⟩) (by show w1.heap.size ≤ Lb; omega) _).setCell (p := ⟨Lb + 1, 0, none⟩) (by show w1.heap.size ≤ Lb + 1; omega) _
            clear e1
            gi_wp2_with fail
            exact hfin
    case done =>
      rintro D q xs U rfl hq ⟨l2, hJ2⟩ ⟨cur, lv, h1, h2, h3, h4, h5, h6, h7, h8⟩ hDk
      obtain ⟨la, lc, rfl, hil⟩ := h3.ins
      obtain rfl := h1.endJ hJ2
      have hlen := h1.len
      rw [byL_length] at hlen
      have HMe := bmerge_any g _ s ws ms A B C U (by omega) HMI'.out (hMd.below h8)
      have cm := h7.cell
      have BU := B1.trans (h8.mono B1.size)
      have r8 : Boxed U (z + 1) 4 (.bool false) := (h8.block (z + 1) (by omega)).trans r2a
      have hVU : V.heap.size ≤ U.heap.size := by have := (Array.getElem?_eq_some_iff.1 hDk).1; omega
      clear h1 h3 h4 h5 h7
      gi_wp2_with fail
      refine ⟨trivial, (callsIn_wide.2 HMe).mono ?_⟩
      rintro e U6 ⟨v6, l6, st6, rfl, hN6, hJ6, hb6, -⟩
      obtain ⟨rfl, rfl⟩ := hJ2.uniq hJ6
      obtain ⟨ia6, ic6, rfl, hin6⟩ := hN6.ins
      have HSa := sameN_any la ia6 lc ic6 cur U6 (by omega) (INS.below' hil hb6) hin6
      have l6 := boxed_below_s h2 hb6
      have n6 := boxed_below_s h6 hb6
      have c2 := l6.cell
      clear HMe hJ6 hin6 hN6
      gi_wp2_with fail
      refine ⟨trivial, (callsIn_wide.2 HSa).mono ?_⟩
      rintro e U7 ⟨rfl, hb7⟩
      have c3 := (boxed_below_s l6 hb7).cell
      have c4 := (boxed_below_s n6 hb7).cell
      have b67 := hb6.trans (hb7.mono hb6.size)
      have B67 := BU.trans (b67.mono BU.size)
      have dn : ((xs.length : Int) == (s.size : Int) - (cur.length : Int)) = true := by simp; omega
      have bs : s.size ≤ 200 ∧ cur.length ≤ 200 := by omega
      clear HSa c2
      gi_wp2_with fail
      refine ⟨trivial, (callsIn_wide.2 (known10_any U7 (HG.out.below B67))).mono ?_⟩
      rintro e U8 ⟨rfl, hb8⟩
      have r9 := boxed_below_s (boxed_below_s r8 b67) hb8
      have c9 := r9.cell
      have f9 := r9.frozen
      have b68 := b67.trans (hb8.mono b67.size)
      have B68 := BU.trans (b68.mono BU.size)
      have hDk8 := (b68.block _ (Array.getElem?_eq_some_iff.1 hDk).1).trans hDk
      gi_wp2_with fail
      have q4 := r9.set (.bool true)
      have BX := B68.setCell (p := ⟨z + 1, 0, none⟩) (by have := HZ.out; show w.heap.size ≤ z + 1; omega) (.bool true)
      have kD := (KeepsOthers.setCell U8 ⟨z + 1, 0, none⟩ (.bool true)).same _ _ hDk8 rfl
      obtain ⟨WX, hWX⟩ : ∃ WX, WX = U8.setCell ⟨z + 1, 0, none⟩ (.bool true) := ⟨_, rfl⟩
      rw [← hWX] at q4 BX kD ⊢
      have c10 := cell_kept q4.cell (grownBy_putObj' WX V.heap.size (.deferred none)) (fun r e => by cases e; exact ⟨_, kD, rfl⟩)
      have y1 := BX.trans (belowK_b (w := w) (Nat.le_refl _) WX V.heap.size _ (.deferred none) (by have := B1.size; have := B7.size; omega) kD rfl rfl)
      refine ⟨by simp, .inl ⟨_, _, rfl, run_takeDeferred kD, ?_⟩⟩
      exact ⟨.bool true, by simp [results, Tryd.results7, go_sem, c10], rfl, y1⟩
    case stop =>
      rintro D q c' pre U rfl hq hp h hDk
      exact h.elim
end Go.Proofs.YtjbdhakogbolkaaDoor
end
