import Derived.Test.YtplmmamebfpcjaaDoorJ16
import Derived.Test.YtplmmamebfpcjaaDoorJ17
import Derived.Deep.QuietTactic
import Derived.BigQuiet
import Derived.Test.YtplmmamebfpcjaaDoorJ12
section
/- reader.spans, each list: its contract. -/
namespace Go.Proofs.YtplmmamebfpcjaaDoor
open Go.RowKit Go.Sort Go.Joins
set_option linter.unusedVariables false
set_option maxRecDepth 100000
set_option linter.unusedSimpArgs false
def SpansQ (li : Nat) (w' : World) (g B : Nat) (s : RS) (e : Ending) (x : Except Er (List (Sp × Nat) × Nat)) : Prop :=
  match x with
  | .ok (rows, q) => ∃ v pv, e = .returned v ∧ Rx w' g { s with P := updP s.P li pv } (.ok q) ∧ RowS w' B v (rows.map Prod.fst) ∧ RowI w' B pv (rows.map Prod.snd)
  | .error r => ∃ s' v l1, e = .returned v ∧ RErr w' g s' r ∧ SameF s s' ∧ RowS w' B v l1
theorem BoxL.new (w : World) (v : Value) : BoxL (w.alloc (.cells #[v] 41)) w.heap.size v := heap_alloc_new _ _
theorem RI1.q {w : World} {g bx B b6 p : Nat} {s : RS} {l : List UInt8} {k : Nat} {wr : World} (h : RI1 w g bx B b6 p s l k wr) : But g B w wr ∧ ∃ v l1, BoxL wr b6 v ∧ RowS wr B v l1 ∧ SpansQ 1 wr g B s (.returned v) (manyP (spP l) k p) := by
  rcases h with ⟨rows, q, v, pv, hm, hx, hrow, hpl, hbx, hbut, hbl⟩ | ⟨e, s', hm, hx, hsf, hbx, hbut, v, l1, hbl, hrow⟩
  · rw [hm]; exact ⟨hbut, v, _, hbl, hrow, v, pv, rfl, hx, hrow, hpl⟩
  · rw [hm]; exact ⟨hbut, v, l1, hbl, hrow, s', v, l1, rfl, hx, hsf, hrow⟩
theorem RI2.q {w : World} {g bx B b6 p : Nat} {s : RS} {l : List UInt8} {k : Nat} {wr : World} (h : RI2 w g bx B b6 p s l k wr) : But g B w wr ∧ ∃ v l1, BoxL wr b6 v ∧ RowS wr B v l1 ∧ SpansQ 2 wr g B s (.returned v) (manyP (spP l) k p) := by
  rcases h with ⟨rows, q, v, pv, hm, hx, hrow, hpl, hbx, hbut, hbl⟩ | ⟨e, s', hm, hx, hsf, hbx, hbut, v, l1, hbl, hrow⟩
  · rw [hm]; exact ⟨hbut, v, _, hbl, hrow, v, pv, rfl, hx, hrow, hpl⟩
  · rw [hm]; exact ⟨hbut, v, l1, hbl, hrow, s', v, l1, rfl, hx, hsf, hrow⟩
theorem RI3.q {w : World} {g bx B b6 p : Nat} {s : RS} {l : List UInt8} {k : Nat} {wr : World} (h : RI3 w g bx B b6 p s l k wr) : But g B w wr ∧ ∃ v l1, BoxL wr b6 v ∧ RowS wr B v l1 ∧ SpansQ 3 wr g B s (.returned v) (manyP (spP l) k p) := by
  rcases h with ⟨rows, q, v, pv, hm, hx, hrow, hpl, hbx, hbut, hbl⟩ | ⟨e, s', hm, hx, hsf, hbx, hbut, v, l1, hbl, hrow⟩
  · rw [hm]; exact ⟨hbut, v, _, hbl, hrow, v, pv, rfl, hx, hrow, hpl⟩
  · rw [hm]; exact ⟨hbut, v, l1, hbl, hrow, s', v, l1, rfl, hx, hsf, hrow⟩
set_option maxHeartbeats 4000000 in
theorem spans_bad (g : Nat) (li : Int) (s : RS) (r : Er) (w : World) (hr : RErr w g s r) :
    Calls Tryd.prog 28 #[.pointer (some ⟨g, 0, none⟩), .int .i64 li] w fun e w' => e = .returned (.slice none 0 0) ∧ RErr w' g s r ∧ But g w.heap.size w w' := by
  have hb0 := box_below w (.cells #[.pointer (some ⟨g, 0, none⟩)] 77)
  have hbx0 := BoxR.new w g
  have hgl : g < w.heap.size := RErr.lt hr
  have hx0 := RErr.below hr hb0
  obtain ⟨Y, hY⟩ : ∃ Y, Y = w.alloc (.cells #[.pointer (some ⟨g, 0, none⟩)] 77) := ⟨_, rfl⟩
  have c0 := hbx0.cell
  rw [← hY] at hb0 hbx0 hx0
  have hbut0 : But g w.heap.size w Y := But.of_below hb0
  have hYs : w.heap.size ≤ Y.heap.size := hb0.size
  have hYs1 : Y.heap.size = w.heap.size + 1 := by rw [hY]; simp
  have HYs1 : Hid (Y.heap.size = w.heap.size + 1) := hYs1
  have HY : Hid (Y = w.alloc (.cells #[.pointer (some ⟨g, 0, none⟩)] 77)) := hY
  have HBX : Hid (BoxR Y w.heap.size g) := hbx0
  have hN := number_bad g s r 0 512 4 Y hx0
  have hb2 := box_below Y (.cells #[.slice none 0 0] 41)
  have c2 := (hbx0.kt (KT.of_below hb2)).cell
  have c3 := (BoxL.new Y (.slice none 0 0)).cell
  have h1' := RErr.below hx0 hb2
  have hR := fun f => rows_err g 0 li f s r _ h1'
  clear hr hY hYs1 hbx0
  go_enter Tryd.func28, Tryd.ntmps28
  go_wp2_with fail
  rw [← HY.out]
  refine hN.mono ?_
  have c1 := HBX.out.cell
  clear c0
  rintro e w1 ⟨rfl, rfl⟩
  go_wp2_with fail
  refine (hR _).mono ?_
  rintro e w2 ⟨rfl, rfl⟩
  go_wp2_with fail
  go_ret
  exact ⟨rfl, h1', hbut0.trans (But.of_below (hb2.mono hYs))⟩
set_option maxHeartbeats 4000000 in
theorem spans1_ok (g p : Nat) (s : RS) (l : List UInt8) (w : World) (hr : Rx w g s (.ok p)) (hp0 : s.P 1 = .slice none 0 0) (hWs : ∃ x m k, s.W = .slice x m k) (hF : Fl w s l) (hw : ∃ w0 : World, Below w0.heap.size w0 w ∧ Oc.BS w0 s.a l ∧ w0.heap.size ≤ g) :
    Calls Tryd.prog 28 #[.pointer (some ⟨g, 0, none⟩), .int .i64 1] w fun e w' => But g w.heap.size w w' ∧ SpansQ 1 w' g w.heap.size s e (listP l p) := by
  have hb0 := box_below w (.cells #[.pointer (some ⟨g, 0, none⟩)] 77)
  have hbx0 := BoxR.new w g
  have hgl : g < w.heap.size := Rx.lt hr
  have hx0 := Rx.below hr hb0
  obtain ⟨Y, hY⟩ : ∃ Y, Y = w.alloc (.cells #[.pointer (some ⟨g, 0, none⟩)] 77) := ⟨_, rfl⟩
  have c0 := hbx0.cell
  rw [← hY] at hb0 hbx0 hx0
  have hbut0 : But g w.heap.size w Y := But.of_below hb0
  have hYs : w.heap.size ≤ Y.heap.size := hb0.size
  have hYs1 : Y.heap.size = w.heap.size + 1 := by rw [hY]; simp
  have HYs1 : Hid (Y.heap.size = w.heap.size + 1) := hYs1
  have HY : Hid (Y = w.alloc (.cells #[.pointer (some ⟨g, 0, none⟩)] 77)) := hY
  have HBX : Hid (BoxR Y w.heap.size g) := hbx0
  have hF0 := hF.step hw hbut0 hgl
  have hw0 := ctx_step hw hbut0 hgl
  have HN := number_uni g s l (.ok p) 0 512 4 Y (by omega) (by omega) hx0 hF0
  have hle := numX_le l 0 512 4 (.ok p)
  have HW0 : Hid (∃ w0 : World, Below w0.heap.size w0 Y ∧ Oc.BS w0 s.a l ∧ w0.heap.size ≤ g) := hw0
  have HF0 : Hid (Fl Y s l) := hF0
  have HP0 : Hid (s.P 1 = .slice none 0 0) := hp0
  have HWs : Hid (∃ x m k, s.W = .slice x m k) := hWs
  clear hr hF hw hx0 hF0 hw0 hp0 hWs hY hYs1 hbx0
  unfold listP
  cases hx : numP l 0 512 4 p with
  | error r =>
    rw [numX_no hx] at HN hle
    simp only [andP] at HN ⊢
    go_enter Tryd.func28, Tryd.ntmps28
    go_wp2_with fail
    rw [← HY.out]
    refine HN.mono ?_
    rintro e w1 ⟨rfl, h1, h2⟩
    have hbut1 : But g w.heap.size w w1 := hbut0.trans (h2.mono hYs)
    have hbx1 : BoxR w1 w.heap.size g := (h2.2.2.2.2 w.heap.size (by rw [HYs1.out]; omega) (by omega)).trans HBX.out
    have hb2 := box_below w1 (.cells #[.slice none 0 0] 41)
    have c2 := (hbx1.kt (KT.of_below hb2)).cell
    have c3 := (BoxL.new w1 (.slice none 0 0)).cell
    have h1' := RErr.below h1 hb2
    clear HN c0 h2 hbx1 h1
    go_wp2_with fail
    refine (rows_err g 0 1 _ s r _ h1').mono ?_
    rintro e w2 ⟨rfl, rfl⟩
    go_wp2_with fail
    go_ret
    exact ⟨hbut1.trans (But.of_below (hb2.mono hbut1.size)), s, _, [], rfl, h1', .refl HWs.out, RowS.nil _ _⟩
  | ok k =>
    obtain ⟨n, q⟩ := k
    rw [numX_ok hx] at HN hle
    simp only [andP] at HN hle ⊢
    go_enter Tryd.func28, Tryd.ntmps28
    go_wp2_with fail
    rw [← HY.out]
    refine HN.mono ?_
    rintro e w1 ⟨rfl, h1, h2⟩
    have hgY : g < Y.heap.size := by omega
    have hbut1 : But g w.heap.size w w1 := hbut0.trans (h2.mono hYs)
    have hbx1 : BoxR w1 w.heap.size g := (h2.2.2.2.2 w.heap.size (by rw [HYs1.out]; omega) (by omega)).trans HBX.out
    have hb2 := box_below w1 (.cells #[.slice none 0 0] 41)
    have hbx2 := hbx1.kt (KT.of_below hb2)
    have hbl2 := BoxL.new w1 (.slice none 0 0)
    obtain ⟨w2, hw2⟩ : ∃ w2, w2 = w1.alloc (.cells #[.slice none 0 0] 41) := ⟨_, rfl⟩
    have c2 := hbx2.cell
    have h1' := Rx.below h1 hb2
    rw [← hw2] at hb2 hbx2 hbl2 h1'
    have hbut2 : But g w.heap.size w w2 := hbut1.trans (But.of_below (hb2.mono hbut1.size))
    have H1 : Hid (Rx w2 g s (.ok q)) := h1'
    have hF2 : Fl w2 s l := (HF0.out.step HW0.out h2 hgY).below hb2
    have hw2' := ctx_step (ctx_step HW0.out h2 hgY) (But.of_below (b := g) hb2) (by have := h2.size; omega)
    have HW2 : Hid (w2 = w1.alloc (.cells #[.slice none 0 0] 41)) := hw2
    have HBL2 : Hid (BoxL w2 w1.heap.size (.slice none 0 0)) := hbl2
    have hbut1s := hbut1.size
    clear HN c0 h1 h1' hw2 hbx1 hbl2
    go_wp2_with fail
    rw [← HW2.out]
    refine (rows1_any g w.heap.size w.heap.size w1.heap.size q n (.slice none 0 0) s l w2 (by omega) hbx2 HBL2.out H1.out HP0.out rfl HWs.out hF2 hw2' hbut2.size hgl hbut1s).mono ?_
    rintro e w3 ⟨rfl, hI⟩
    obtain ⟨k1, v, l1, k2, k3, k4⟩ := hI.q
    have c4 := k2.cell
    have K4 : Hid (SpansQ 1 w3 g w.heap.size s (.returned v) (manyP (spP l) n q)) := k4
    clear k4 hI c2
    go_wp2_with fail
    go_ret
    exact ⟨hbut2.trans k1, K4.out⟩
set_option maxHeartbeats 4000000 in
theorem spans2_ok (g p : Nat) (s : RS) (l : List UInt8) (w : World) (hr : Rx w g s (.ok p)) (hp0 : s.P 2 = .slice none 0 0) (hWs : ∃ x m k, s.W = .slice x m k) (hF : Fl w s l) (hw : ∃ w0 : World, Below w0.heap.size w0 w ∧ Oc.BS w0 s.a l ∧ w0.heap.size ≤ g) :
    Calls Tryd.prog 28 #[.pointer (some ⟨g, 0, none⟩), .int .i64 2] w fun e w' => But g w.heap.size w w' ∧ SpansQ 2 w' g w.heap.size s e (listP l p) := by
  have hb0 := box_below w (.cells #[.pointer (some ⟨g, 0, none⟩)] 77)
  have hbx0 := BoxR.new w g
  have hgl : g < w.heap.size := Rx.lt hr
  have hx0 := Rx.below hr hb0
  obtain ⟨Y, hY⟩ : ∃ Y, Y = w.alloc (.cells #[.pointer (some ⟨g, 0, none⟩)] 77) := ⟨_, rfl⟩
  have c0 := hbx0.cell
  rw [← hY] at hb0 hbx0 hx0
  have hbut0 : But g w.heap.size w Y := But.of_below hb0
  have hYs : w.heap.size ≤ Y.heap.size := hb0.size
  have hYs1 : Y.heap.size = w.heap.size + 1 := by rw [hY]; simp
  have HYs1 : Hid (Y.heap.size = w.heap.size + 1) := hYs1
  have HY : Hid (Y = w.alloc (.cells #[.pointer (some ⟨g, 0, none⟩)] 77)) := hY
  have HBX : Hid (BoxR Y w.heap.size g) := hbx0
  have hF0 := hF.step hw hbut0 hgl
  have hw0 := ctx_step hw hbut0 hgl
  have HN := number_uni g s l (.ok p) 0 512 4 Y (by omega) (by omega) hx0 hF0
  have hle := numX_le l 0 512 4 (.ok p)
  have HW0 : Hid (∃ w0 : World, Below w0.heap.size w0 Y ∧ Oc.BS w0 s.a l ∧ w0.heap.size ≤ g) := hw0
  have HF0 : Hid (Fl Y s l) := hF0
  have HP0 : Hid (s.P 2 = .slice none 0 0) := hp0
  have HWs : Hid (∃ x m k, s.W = .slice x m k) := hWs
  clear hr hF hw hx0 hF0 hw0 hp0 hWs hY hYs1 hbx0
  unfold listP
  cases hx : numP l 0 512 4 p with
  | error r =>
    rw [numX_no hx] at HN hle
    simp only [andP] at HN ⊢
    go_enter Tryd.func28, Tryd.ntmps28
    go_wp2_with fail
    rw [← HY.out]
    refine HN.mono ?_
    rintro e w1 ⟨rfl, h1, h2⟩
    have hbut1 : But g w.heap.size w w1 := hbut0.trans (h2.mono hYs)
    have hbx1 : BoxR w1 w.heap.size g := (h2.2.2.2.2 w.heap.size (by rw [HYs1.out]; omega) (by omega)).trans HBX.out
    have hb2 := box_below w1 (.cells #[.slice none 0 0] 41)
    have c2 := (hbx1.kt (KT.of_below hb2)).cell
    have c3 := (BoxL.new w1 (.slice none 0 0)).cell
    have h1' := RErr.below h1 hb2
    clear HN c0 h2 hbx1 h1
    go_wp2_with fail
    refine (rows_err g 0 2 _ s r _ h1').mono ?_
    rintro e w2 ⟨rfl, rfl⟩
    go_wp2_with fail
    go_ret
    exact ⟨hbut1.trans (But.of_below (hb2.mono hbut1.size)), s, _, [], rfl, h1', .refl HWs.out, RowS.nil _ _⟩
  | ok k =>
    obtain ⟨n, q⟩ := k
    rw [numX_ok hx] at HN hle
    simp only [andP] at HN hle ⊢
    go_enter Tryd.func28, Tryd.ntmps28
    go_wp2_with fail
    rw [← HY.out]
    refine HN.mono ?_
    rintro e w1 ⟨rfl, h1, h2⟩
    have hgY : g < Y.heap.size := by omega
    have hbut1 : But g w.heap.size w w1 := hbut0.trans (h2.mono hYs)
    have hbx1 : BoxR w1 w.heap.size g := (h2.2.2.2.2 w.heap.size (by rw [HYs1.out]; omega) (by omega)).trans HBX.out
    have hb2 := box_below w1 (.cells #[.slice none 0 0] 41)
    have hbx2 := hbx1.kt (KT.of_below hb2)
    have hbl2 := BoxL.new w1 (.slice none 0 0)
    obtain ⟨w2, hw2⟩ : ∃ w2, w2 = w1.alloc (.cells #[.slice none 0 0] 41) := ⟨_, rfl⟩
    have c2 := hbx2.cell
    have h1' := Rx.below h1 hb2
    rw [← hw2] at hb2 hbx2 hbl2 h1'
    have hbut2 : But g w.heap.size w w2 := hbut1.trans (But.of_below (hb2.mono hbut1.size))
    have H1 : Hid (Rx w2 g s (.ok q)) := h1'
    have hF2 : Fl w2 s l := (HF0.out.step HW0.out h2 hgY).below hb2
    have hw2' := ctx_step (ctx_step HW0.out h2 hgY) (But.of_below (b := g) hb2) (by have := h2.size; omega)
    have HW2 : Hid (w2 = w1.alloc (.cells #[.slice none 0 0] 41)) := hw2
    have HBL2 : Hid (BoxL w2 w1.heap.size (.slice none 0 0)) := hbl2
    have hbut1s := hbut1.size
    clear HN c0 h1 h1' hw2 hbx1 hbl2
    go_wp2_with fail
    rw [← HW2.out]
    refine (rows2_any g w.heap.size w.heap.size w1.heap.size q n (.slice none 0 0) s l w2 (by omega) hbx2 HBL2.out H1.out HP0.out rfl HWs.out hF2 hw2' hbut2.size hgl hbut1s).mono ?_
    rintro e w3 ⟨rfl, hI⟩
    obtain ⟨k1, v, l1, k2, k3, k4⟩ := hI.q
    have c4 := k2.cell
    have K4 : Hid (SpansQ 2 w3 g w.heap.size s (.returned v) (manyP (spP l) n q)) := k4
    clear k4 hI c2
    go_wp2_with fail
    go_ret
    exact ⟨hbut2.trans k1, K4.out⟩
set_option maxHeartbeats 4000000 in
theorem spans3_ok (g p : Nat) (s : RS) (l : List UInt8) (w : World) (hr : Rx w g s (.ok p)) (hp0 : s.P 3 = .slice none 0 0) (hWs : ∃ x m k, s.W = .slice x m k) (hF : Fl w s l) (hw : ∃ w0 : World, Below w0.heap.size w0 w ∧ Oc.BS w0 s.a l ∧ w0.heap.size ≤ g) :
    Calls Tryd.prog 28 #[.pointer (some ⟨g, 0, none⟩), .int .i64 3] w fun e w' => But g w.heap.size w w' ∧ SpansQ 3 w' g w.heap.size s e (listP l p) := by
  have hb0 := box_below w (.cells #[.pointer (some ⟨g, 0, none⟩)] 77)
  have hbx0 := BoxR.new w g
  have hgl : g < w.heap.size := Rx.lt hr
  have hx0 := Rx.below hr hb0
  obtain ⟨Y, hY⟩ : ∃ Y, Y = w.alloc (.cells #[.pointer (some ⟨g, 0, none⟩)] 77) := ⟨_, rfl⟩
  have c0 := hbx0.cell
  rw [← hY] at hb0 hbx0 hx0
  have hbut0 : But g w.heap.size w Y := But.of_below hb0
  have hYs : w.heap.size ≤ Y.heap.size := hb0.size
  have hYs1 : Y.heap.size = w.heap.size + 1 := by rw [hY]; simp
  have HYs1 : Hid (Y.heap.size = w.heap.size + 1) := hYs1
  have HY : Hid (Y = w.alloc (.cells #[.pointer (some ⟨g, 0, none⟩)] 77)) := hY
  have HBX : Hid (BoxR Y w.heap.size g) := hbx0
  have hF0 := hF.step hw hbut0 hgl
  have hw0 := ctx_step hw hbut0 hgl
  have HN := number_uni g s l (.ok p) 0 512 4 Y (by omega) (by omega) hx0 hF0
  have hle := numX_le l 0 512 4 (.ok p)
  have HW0 : Hid (∃ w0 : World, Below w0.heap.size w0 Y ∧ Oc.BS w0 s.a l ∧ w0.heap.size ≤ g) := hw0
  have HF0 : Hid (Fl Y s l) := hF0
  have HP0 : Hid (s.P 3 = .slice none 0 0) := hp0
  have HWs : Hid (∃ x m k, s.W = .slice x m k) := hWs
  clear hr hF hw hx0 hF0 hw0 hp0 hWs hY hYs1 hbx0
  unfold listP
  cases hx : numP l 0 512 4 p with
  | error r =>
    rw [numX_no hx] at HN hle
    simp only [andP] at HN ⊢
    go_enter Tryd.func28, Tryd.ntmps28
    go_wp2_with fail
    rw [← HY.out]
    refine HN.mono ?_
    rintro e w1 ⟨rfl, h1, h2⟩
    have hbut1 : But g w.heap.size w w1 := hbut0.trans (h2.mono hYs)
    have hbx1 : BoxR w1 w.heap.size g := (h2.2.2.2.2 w.heap.size (by rw [HYs1.out]; omega) (by omega)).trans HBX.out
    have hb2 := box_below w1 (.cells #[.slice none 0 0] 41)
    have c2 := (hbx1.kt (KT.of_below hb2)).cell
    have c3 := (BoxL.new w1 (.slice none 0 0)).cell
    have h1' := RErr.below h1 hb2
    clear HN c0 h2 hbx1 h1
    go_wp2_with fail
    refine (rows_err g 0 3 _ s r _ h1').mono ?_
    rintro e w2 ⟨rfl, rfl⟩
    go_wp2_with fail
    go_ret
    exact ⟨hbut1.trans (But.of_below (hb2.mono hbut1.size)), s, _, [], rfl, h1', .refl HWs.out, RowS.nil _ _⟩
  | ok k =>
    obtain ⟨n, q⟩ := k
    rw [numX_ok hx] at HN hle
    simp only [andP] at HN hle ⊢
    go_enter Tryd.func28, Tryd.ntmps28
    go_wp2_with fail
    rw [← HY.out]
    refine HN.mono ?_
    rintro e w1 ⟨rfl, h1, h2⟩
    have hgY : g < Y.heap.size := by omega
    have hbut1 : But g w.heap.size w w1 := hbut0.trans (h2.mono hYs)
    have hbx1 : BoxR w1 w.heap.size g := (h2.2.2.2.2 w.heap.size (by rw [HYs1.out]; omega) (by omega)).trans HBX.out
    have hb2 := box_below w1 (.cells #[.slice none 0 0] 41)
    have hbx2 := hbx1.kt (KT.of_below hb2)
    have hbl2 := BoxL.new w1 (.slice none 0 0)
    obtain ⟨w2, hw2⟩ : ∃ w2, w2 = w1.alloc (.cells #[.slice none 0 0] 41) := ⟨_, rfl⟩
    have c2 := hbx2.cell
    have h1' := Rx.below h1 hb2
    rw [← hw2] at hb2 hbx2 hbl2 h1'
    have hbut2 : But g w.heap.size w w2 := hbut1.trans (But.of_below (hb2.mono hbut1.size))
    have H1 : Hid (Rx w2 g s (.ok q)) := h1'
    have hF2 : Fl w2 s l := (HF0.out.step HW0.out h2 hgY).below hb2
    have hw2' := ctx_step (ctx_step HW0.out h2 hgY) (But.of_below (b := g) hb2) (by have := h2.size; omega)
    have HW2 : Hid (w2 = w1.alloc (.cells #[.slice none 0 0] 41)) := hw2
    have HBL2 : Hid (BoxL w2 w1.heap.size (.slice none 0 0)) := hbl2
    have hbut1s := hbut1.size
    clear HN c0 h1 h1' hw2 hbx1 hbl2
    go_wp2_with fail
    rw [← HW2.out]
    refine (rows3_any g w.heap.size w.heap.size w1.heap.size q n (.slice none 0 0) s l w2 (by omega) hbx2 HBL2.out H1.out HP0.out rfl HWs.out hF2 hw2' hbut2.size hgl hbut1s).mono ?_
    rintro e w3 ⟨rfl, hI⟩
    obtain ⟨k1, v, l1, k2, k3, k4⟩ := hI.q
    have c4 := k2.cell
    have K4 : Hid (SpansQ 3 w3 g w.heap.size s (.returned v) (manyP (spP l) n q)) := k4
    clear k4 hI c2
    go_wp2_with fail
    go_ret
    exact ⟨hbut2.trans k1, K4.out⟩
end Go.Proofs.YtplmmamebfpcjaaDoor
end
section
/- reader.magic: its contract. -/
namespace Go.Proofs.YtplmmamebfpcjaaDoor
open Go.RowKit Go.Sort Go.Joins
set_option linter.unusedVariables false
set_option maxRecDepth 100000
theorem range4 : List.range 4 = [0, 1, 2, 3] := by decide
theorem magicP_some {l : List UInt8} {k : Nat} (hk : k < 4) (hb : ∀ j, j < k → l[j]? = magicL[j]?) (h : l[k]? ≠ magicL[k]?) : magicP l = some k := by
  unfold magicP
  rw [range4]
  rcases (show k = 0 ∨ k = 1 ∨ k = 2 ∨ k = 3 by omega) with rfl | rfl | rfl | rfl
  · simp only [List.find?_cons, decide_eq_true h]
  · have h0 := hb 0 (by omega)
    simp only [List.find?_cons, h0, decide_eq_true h]; rfl
  · have h0 := hb 0 (by omega)
    have h1 := hb 1 (by omega)
    simp only [List.find?_cons, h0, h1, decide_eq_true h]; rfl
  · have h0 := hb 0 (by omega)
    have h1 := hb 1 (by omega)
    have h2 := hb 2 (by omega)
    simp only [List.find?_cons, h0, h1, h2, decide_eq_true h]; rfl
theorem magicP_none {l : List UInt8} (hb : ∀ j, j < 4 → l[j]? = magicL[j]?) : magicP l = none := by
  unfold magicP
  rw [range4]
  have h0 := hb 0 (by omega)
  have h1 := hb 1 (by omega)
  have h2 := hb 2 (by omega)
  have h3 := hb 3 (by omega)
  simp only [List.find?_cons, h0, h1, h2, h3]; rfl
def MagicQ (w' : World) (g : Nat) (s : RS) (l : List UInt8) : Prop :=
  match magicP l with
  | none => Rx w' g s (.ok 4)
  | some i => RErr w' g s (i, 11)
theorem magicL_at {k : Nat} {m : UInt8} (hk : magicL[k]? = some m) : k < 4 := by
  have := (List.getElem?_eq_some_iff.1 hk).1
  simpa [magicL] using this
theorem head_le {l : List UInt8} {k : Nat} (hk : k ≤ 4) (hb : ∀ j, j < k → l[j]? = magicL[j]?) : k ≤ l.length := by
  rcases Nat.lt_or_ge l.length k with h | h
  · exfalso
    have h1 := hb l.length h
    rw [List.getElem?_eq_none (Nat.le_refl _)] at h1
    have h2 : l.length < magicL.length := by simp [magicL]; omega
    rw [List.getElem?_eq_getElem h2] at h1
    cases h1
  · exact h
theorem byte_eq {l : List UInt8} {k m : Nat} (hk : k < l.length) (hm : m < 256) (h : (l.getD k 0).toNat = m) : l[k]? = some (UInt8.ofNat m) := by
  rw [List.getD_eq_getElem?_getD, List.getElem?_eq_getElem hk] at h
  rw [List.getElem?_eq_getElem hk]
  simp only [Option.getD_some] at h
  rw [← h, UInt8.ofNat_toNat]
theorem byte_ne {l : List UInt8} {k m : Nat} (hk : k < l.length) (hm : m < 256) (h : (l.getD k 0).toNat ≠ m) : l[k]? ≠ some (UInt8.ofNat m) := by
  intro e
  apply h
  rw [List.getD_eq_getElem?_getD, e]
  simp
  omega
set_option maxHeartbeats 4000000 in
theorem magic_any (g p : Nat) (s : RS) (l : List UInt8) (w : World) (hr : Rx w g s (.ok p)) (hF : Fl w s l) :
    Calls Tryd.prog 25 #[.pointer (some ⟨g, 0, none⟩)] w fun e w' => e = .returned (.tuple #[]) ∧ But g w.heap.size w w' ∧ MagicQ w' g s l := by
  have hll := hF.lim
  have hn := hF.n
  have hbs := hF.at'
  have hR : Rx w g s (.ok p) := hr
  have c0 : w.cell? ⟨g, 0, none⟩ = some (.slice s.a l.length s.c) := by
    have h0 : w.cell? ⟨g, 0, none⟩ = some (.slice s.a s.n s.c) := RB.c0 (s := { s with p := p, no := none }) hr
    rw [h0, hn]
  have HR : Hid (Rx w g s (.ok p)) := hR
  have HBS : Hid (Oc.BS w s.a l) := hbs
  have f1 := Rx.free hr 1
  have c1 : w.cell? ⟨g, 1, none⟩ = some (.int .i64 (p : Nat)) := RB.c1 (s := { s with p := p, no := none }) hr
  have hle := hF.le
  clear hr hF hbs hR hn
  go_enter Tryd.func25, Tryd.ntmps25
  go_wp2_with fail
  go_loopw [3] (fun i wr => ∃ k : Nat, k ≤ 4 ∧ i = .int .i64 (k : Nat) ∧ (∀ j, j < k → l[j]? = magicL[j]?) ∧ ∃ m, wr = w.drewN m) (fun i _ => 4 - (intOf i).toNat)
  case atStart => exact ⟨0, by omega, rfl, fun j hj => by omega, 0, rfl⟩
  case round =>
    obtain ⟨k, hk, rfl, hm, m, rfl⟩ := hrel
    have HM : Hid (∀ j, j < k → l[j]? = magicL[j]?) := hm
    have hkl := head_le hk hm
    clear hm
    have b0 : Below w.heap.size w (w.drewN m) := below_drawn w m
    rcases (show k = 4 ∨ k = 0 ∨ k = 1 ∨ k = 2 ∨ k = 3 by omega) with rfl | rfl | rfl | rfl | rfl
    · go_wp2_with fail
      go_end0
      have hx : Rx (w.drewN m) g s (.ok p) := Rx.below HR.out b0
      refine ⟨rfl, (But.of_below b0).setCell 1 _, ?_⟩
      unfold MagicQ
      rw [magicP_none HM.out]
      exact RB.setP hx 4
    · rw [show (((0 : Nat)) : Int) = 0 from rfl]
      by_cases hl : l.length = 0
      · have e1 : ((0 : Int) == (l.length : Int)) = true := by rw [hl]; rfl
        have HL : Hid (l.length = 0) := hl
        clear hl
        go_wp2_with fail
        go_quiet (fail)
        go_wp2_with fail
        refine (refuse_any g { s with p := p, no := none } 0 11 _ (Rx.below HR.out (below_drawn w _))).mono ?_
        rintro e w1 ⟨rfl, h1, h2⟩
        go_wp2_with fail
        refine bodyPost_ret (v := .tuple #[]) (results_none rfl _ _ _) rfl ⟨rfl, (But.of_below (below_drawn w _)).trans (h2.mono (below_drawn w _).size), ?_⟩
        unfold MagicQ
        rw [magicP_some (k := 0) (by omega) HM.out (by rw [List.getElem?_eq_none (by rw [HL.out]; omega)]; simp [magicL])]
        exact h1
      · have e1 : ((0 : Int) == (l.length : Int)) = false := by simp; omega
        have hkl' : 0 < l.length := by omega
        have hkI : (0 : Int) < (l.length : Int) := by omega
        rcases HBS.out with h0 | ⟨b, off, ha, hc⟩
        · rw [h0] at hkl'; simp at hkl'
        · have cc := hc 0 hkl'
          rw [ha] at c0
          obtain ⟨c, hcc⟩ : ∃ c, c = (l.getD 0 0).toNat := ⟨_, rfl⟩
          rw [← hcc] at cc
          have HCC : Hid (c = (l.getD 0 0).toNat) := hcc
          rw [Nat.add_zero] at cc
          clear hcc hl hc
          go_wp2_with fail
          go_quiet (fail)
          go_wp2_with fail
          · have hcmp : ((c : Int) != (((({ data := #[66, 80, 69, 49] } : ByteArray)[0]'(by decide)).toNat : Nat) : Int)) = true := by assumption
            have HQ : Hid (c ≠ 66) := fun e => by rw [e] at hcmp; revert hcmp; decide
            refine (refuse_any g { s with p := p, no := none } 0 11 _ (Rx.below HR.out (below_drawn w _))).mono ?_
            rintro e w1 ⟨rfl, h1, h2⟩
            go_wp2_with fail
            refine bodyPost_ret (v := .tuple #[]) (results_none rfl _ _ _) rfl ⟨rfl, (But.of_below (below_drawn w _)).trans (h2.mono (below_drawn w _).size), ?_⟩
            unfold MagicQ
            rw [magicP_some (k := 0) (by omega) HM.out (byte_ne (m := 66) hkl' (by omega) (by rw [← HCC.out]; exact HQ.out))]
            exact h1
          · have hcmp : ((c : Int) != (((({ data := #[66, 80, 69, 49] } : ByteArray)[0]'(by decide)).toNat : Nat) : Int)) = false := by assumption
            have HQ : Hid (c = 66) := by
              have h5 : ((c : Int) = 66) := by
                have h6 : ((c : Int) != 66) = false := hcmp
                simpa using h6
              show c = 66
              omega
            have hrel2 : ∀ j : Nat, j < 1 → l[j]? = magicL[j]? := fun j hj => by
              by_cases hj2 : j < 0
              · exact HM.out j hj2
              · obtain rfl : j = 0 := by omega
                rw [byte_eq (m := 66) hkl' (by omega) (by rw [← HCC.out, HQ.out])]
                rfl
            exact ⟨⟨1, by omega, rfl, hrel2, _, rfl⟩, by simp only [intOf]; decide⟩
    · rw [show (((1 : Nat)) : Int) = 1 from rfl]
      by_cases hl : l.length = 1
      · have e1 : ((1 : Int) == (l.length : Int)) = true := by rw [hl]; rfl
        have HL : Hid (l.length = 1) := hl
        clear hl
        go_wp2_with fail
        go_quiet (fail)
        go_wp2_with fail
        refine (refuse_any g { s with p := p, no := none } 1 11 _ (Rx.below HR.out (below_drawn w _))).mono ?_
        rintro e w1 ⟨rfl, h1, h2⟩
        go_wp2_with fail
        refine bodyPost_ret (v := .tuple #[]) (results_none rfl _ _ _) rfl ⟨rfl, (But.of_below (below_drawn w _)).trans (h2.mono (below_drawn w _).size), ?_⟩
        unfold MagicQ
        rw [magicP_some (k := 1) (by omega) HM.out (by rw [List.getElem?_eq_none (by rw [HL.out]; omega)]; simp [magicL])]
        exact h1
      · have e1 : ((1 : Int) == (l.length : Int)) = false := by simp; omega
        have hkl' : 1 < l.length := by omega
        have hkI : (1 : Int) < (l.length : Int) := by omega
        rcases HBS.out with h0 | ⟨b, off, ha, hc⟩
        · rw [h0] at hkl'; simp at hkl'
        · have cc := hc 1 hkl'
          rw [ha] at c0
          obtain ⟨c, hcc⟩ : ∃ c, c = (l.getD 1 0).toNat := ⟨_, rfl⟩
          rw [← hcc] at cc
          have HCC : Hid (c = (l.getD 1 0).toNat) := hcc
          skip
          clear hcc hl hc
          go_wp2_with fail
          go_quiet (fail)
          go_wp2_with fail
          · have hcmp : ((c : Int) != (((({ data := #[66, 80, 69, 49] } : ByteArray)[1]'(by decide)).toNat : Nat) : Int)) = true := by assumption
            have HQ : Hid (c ≠ 80) := fun e => by rw [e] at hcmp; revert hcmp; decide
            refine (refuse_any g { s with p := p, no := none } 1 11 _ (Rx.below HR.out (below_drawn w _))).mono ?_
            rintro e w1 ⟨rfl, h1, h2⟩
            go_wp2_with fail
            refine bodyPost_ret (v := .tuple #[]) (results_none rfl _ _ _) rfl ⟨rfl, (But.of_below (below_drawn w _)).trans (h2.mono (below_drawn w _).size), ?_⟩
            unfold MagicQ
            rw [magicP_some (k := 1) (by omega) HM.out (byte_ne (m := 80) hkl' (by omega) (by rw [← HCC.out]; exact HQ.out))]
            exact h1
          · have hcmp : ((c : Int) != (((({ data := #[66, 80, 69, 49] } : ByteArray)[1]'(by decide)).toNat : Nat) : Int)) = false := by assumption
            have HQ : Hid (c = 80) := by
              have h5 : ((c : Int) = 80) := by
                have h6 : ((c : Int) != 80) = false := hcmp
                simpa using h6
              show c = 80
              omega
            have hrel2 : ∀ j : Nat, j < 2 → l[j]? = magicL[j]? := fun j hj => by
              by_cases hj2 : j < 1
              · exact HM.out j hj2
              · obtain rfl : j = 1 := by omega
                rw [byte_eq (m := 80) hkl' (by omega) (by rw [← HCC.out, HQ.out])]
                rfl
            exact ⟨⟨2, by omega, rfl, hrel2, _, rfl⟩, by simp only [intOf]; decide⟩
    · rw [show (((2 : Nat)) : Int) = 2 from rfl]
      by_cases hl : l.length = 2
      · have e1 : ((2 : Int) == (l.length : Int)) = true := by rw [hl]; rfl
        have HL : Hid (l.length = 2) := hl
        clear hl
        go_wp2_with fail
        go_quiet (fail)
        go_wp2_with fail
        refine (refuse_any g { s with p := p, no := none } 2 11 _ (Rx.below HR.out (below_drawn w _))).mono ?_
        rintro e w1 ⟨rfl, h1, h2⟩
        go_wp2_with fail
        refine bodyPost_ret (v := .tuple #[]) (results_none rfl _ _ _) rfl ⟨rfl, (But.of_below (below_drawn w _)).trans (h2.mono (below_drawn w _).size), ?_⟩
        unfold MagicQ
        rw [magicP_some (k := 2) (by omega) HM.out (by rw [List.getElem?_eq_none (by rw [HL.out]; omega)]; simp [magicL])]
        exact h1
      · have e1 : ((2 : Int) == (l.length : Int)) = false := by simp; omega
        have hkl' : 2 < l.length := by omega
        have hkI : (2 : Int) < (l.length : Int) := by omega
        rcases HBS.out with h0 | ⟨b, off, ha, hc⟩
        · rw [h0] at hkl'; simp at hkl'
        · have cc := hc 2 hkl'
          rw [ha] at c0
          obtain ⟨c, hcc⟩ : ∃ c, c = (l.getD 2 0).toNat := ⟨_, rfl⟩
          rw [← hcc] at cc
          have HCC : Hid (c = (l.getD 2 0).toNat) := hcc
          skip
          clear hcc hl hc
          go_wp2_with fail
          go_quiet (fail)
          go_wp2_with fail
          · have hcmp : ((c : Int) != (((({ data := #[66, 80, 69, 49] } : ByteArray)[2]'(by decide)).toNat : Nat) : Int)) = true := by assumption
            have HQ : Hid (c ≠ 69) := fun e => by rw [e] at hcmp; revert hcmp; decide
            refine (refuse_any g { s with p := p, no := none } 2 11 _ (Rx.below HR.out (below_drawn w _))).mono ?_
            rintro e w1 ⟨rfl, h1, h2⟩
            go_wp2_with fail
            refine bodyPost_ret (v := .tuple #[]) (results_none rfl _ _ _) rfl ⟨rfl, (But.of_below (below_drawn w _)).trans (h2.mono (below_drawn w _).size), ?_⟩
            unfold MagicQ
            rw [magicP_some (k := 2) (by omega) HM.out (byte_ne (m := 69) hkl' (by omega) (by rw [← HCC.out]; exact HQ.out))]
            exact h1
          · have hcmp : ((c : Int) != (((({ data := #[66, 80, 69, 49] } : ByteArray)[2]'(by decide)).toNat : Nat) : Int)) = false := by assumption
            have HQ : Hid (c = 69) := by
              have h5 : ((c : Int) = 69) := by
                have h6 : ((c : Int) != 69) = false := hcmp
                simpa using h6
              show c = 69
              omega
            have hrel2 : ∀ j : Nat, j < 3 → l[j]? = magicL[j]? := fun j hj => by
              by_cases hj2 : j < 2
              · exact HM.out j hj2
              · obtain rfl : j = 2 := by omega
                rw [byte_eq (m := 69) hkl' (by omega) (by rw [← HCC.out, HQ.out])]
                rfl
            exact ⟨⟨3, by omega, rfl, hrel2, _, rfl⟩, by simp only [intOf]; decide⟩
    · rw [show (((3 : Nat)) : Int) = 3 from rfl]
      by_cases hl : l.length = 3
      · have e1 : ((3 : Int) == (l.length : Int)) = true := by rw [hl]; rfl
        have HL : Hid (l.length = 3) := hl
        clear hl
        go_wp2_with fail
        go_quiet (fail)
        go_wp2_with fail
        refine (refuse_any g { s with p := p, no := none } 3 11 _ (Rx.below HR.out (below_drawn w _))).mono ?_
        rintro e w1 ⟨rfl, h1, h2⟩
        go_wp2_with fail
        refine bodyPost_ret (v := .tuple #[]) (results_none rfl _ _ _) rfl ⟨rfl, (But.of_below (below_drawn w _)).trans (h2.mono (below_drawn w _).size), ?_⟩
        unfold MagicQ
        rw [magicP_some (k := 3) (by omega) HM.out (by rw [List.getElem?_eq_none (by rw [HL.out]; omega)]; simp [magicL])]
        exact h1
      · have e1 : ((3 : Int) == (l.length : Int)) = false := by simp; omega
        have hkl' : 3 < l.length := by omega
        have hkI : (3 : Int) < (l.length : Int) := by omega
        rcases HBS.out with h0 | ⟨b, off, ha, hc⟩
        · rw [h0] at hkl'; simp at hkl'
        · have cc := hc 3 hkl'
          rw [ha] at c0
          obtain ⟨c, hcc⟩ : ∃ c, c = (l.getD 3 0).toNat := ⟨_, rfl⟩
          rw [← hcc] at cc
          have HCC : Hid (c = (l.getD 3 0).toNat) := hcc
          skip
          clear hcc hl hc
          go_wp2_with fail
          go_quiet (fail)
          go_wp2_with fail
          · have hcmp : ((c : Int) != (((({ data := #[66, 80, 69, 49] } : ByteArray)[3]'(by decide)).toNat : Nat) : Int)) = true := by assumption
            have HQ : Hid (c ≠ 49) := fun e => by rw [e] at hcmp; revert hcmp; decide
            refine (refuse_any g { s with p := p, no := none } 3 11 _ (Rx.below HR.out (below_drawn w _))).mono ?_
            rintro e w1 ⟨rfl, h1, h2⟩
            go_wp2_with fail
            refine bodyPost_ret (v := .tuple #[]) (results_none rfl _ _ _) rfl ⟨rfl, (But.of_below (below_drawn w _)).trans (h2.mono (below_drawn w _).size), ?_⟩
            unfold MagicQ
            rw [magicP_some (k := 3) (by omega) HM.out (byte_ne (m := 49) hkl' (by omega) (by rw [← HCC.out]; exact HQ.out))]
            exact h1
          · have hcmp : ((c : Int) != (((({ data := #[66, 80, 69, 49] } : ByteArray)[3]'(by decide)).toNat : Nat) : Int)) = false := by assumption
            have HQ : Hid (c = 49) := by
              have h5 : ((c : Int) = 49) := by
                have h6 : ((c : Int) != 49) = false := hcmp
                simpa using h6
              show c = 49
              omega
            have hrel2 : ∀ j : Nat, j < 4 → l[j]? = magicL[j]? := fun j hj => by
              by_cases hj2 : j < 3
              · exact HM.out j hj2
              · obtain rfl : j = 3 := by omega
                rw [byte_eq (m := 49) hkl' (by omega) (by rw [← HCC.out, HQ.out])]
                rfl
            exact ⟨⟨4, by omega, rfl, hrel2, _, rfl⟩, by simp only [intOf]; decide⟩
end Go.Proofs.YtplmmamebfpcjaaDoor
end
section
/- reader.sum: its contract. -/
namespace Go.Proofs.YtplmmamebfpcjaaDoor
open Go.RowKit Go.Sort Go.Joins
set_option linter.unusedVariables false
set_option maxRecDepth 100000
def SumQ (w' : World) (g : Nat) (s : RS) (p : Nat) (x : Except Er Unit) : Prop :=
  match x with
  | .ok _ => Rx w' g s (.ok (p + 4))
  | .error e => RErr w' g s e
set_option maxHeartbeats 1000000 in
theorem sum_bad (g : Nat) (s : RS) (r : Er) (w : World) (h : RErr w g s r) :
    Calls Tryd.prog 29 #[.pointer (some ⟨g, 0, none⟩)] w fun e w' => e = .returned (.tuple #[]) ∧ w' = w := by
  have hN := number_bad g s r 0 4294967295 0 w h
  obtain ⟨p, N, h1, h3, h4⟩ := h
  have x1 := h1.c1
  have x2 := h1.c2
  clear h1 h4
  go_enter Tryd.func29, Tryd.ntmps29
  go_wp2_with fail
  refine hN.mono ?_
  rintro e w1 ⟨rfl, rfl⟩
  go_wp2_with fail
  go_end0
  exact ⟨rfl, rfl⟩
set_option maxHeartbeats 4000000 in
theorem sum_ok (g p : Nat) (s : RS) (l : List UInt8) (w : World) (hr : Rx w g s (.ok p)) (hF : Fl w s l) (hw : ∃ w0 : World, Below w0.heap.size w0 w ∧ Oc.BS w0 s.a l ∧ w0.heap.size ≤ g) :
    Calls Tryd.prog 29 #[.pointer (some ⟨g, 0, none⟩)] w fun e w' => e = .returned (.tuple #[]) ∧ But g w.heap.size w w' ∧ SumQ w' g s p (sumP l p) := by
  have hgl : g < w.heap.size := RB.lt hr
  have hll := hF.lim
  have hle := hF.le
  have HN := number_uni g s l (.ok p) 0 4294967295 0 w (by omega) (by omega) hr hF
  have x1 : w.cell? ⟨g, 1, none⟩ = some (.int .i64 (p : Nat)) := RB.c1 (s := { s with p := p, no := none }) hr
  have HFn : Hid (s.n = l.length) := hF.n
  have HF0 : Hid (Fl w s l) := hF
  have HW0 : Hid (∃ w0 : World, Below w0.heap.size w0 w ∧ Oc.BS w0 s.a l ∧ w0.heap.size ≤ g) := hw
  clear hr hF hw
  unfold sumP
  cases hx : numP l 0 4294967295 0 p with
  | error r =>
    rw [numX_no hx] at HN
    simp only [andP] at HN ⊢
    go_enter Tryd.func29, Tryd.ntmps29
    go_wp2_with fail
    refine HN.mono ?_
    rintro e w1 ⟨rfl, h1, h2⟩
    have hr := h1
    obtain ⟨p1, N, k1, k3, k4⟩ := h1
    have x2 := k1.c2
    clear k1 k4 HN x1
    go_wp2_with fail
    go_end0
    exact ⟨rfl, h2, hr⟩
  | ok k =>
    obtain ⟨n, q⟩ := k
    obtain ⟨i1, rfl, i2, i3, i4⟩ := numP_inv hx
    rw [numX_ok hx] at HN
    simp only [andP] at HN ⊢
    have HI : Hid (n = Oc.num4 l p) := i2
    clear i2 hx
    have pre : ∀ w1, Rx w1 g s (.ok (p + 4)) → But g w.heap.size w w1 → w1.cell? ⟨g, 0, none⟩ = some (.slice s.a l.length s.c) ∧ w1.cell? ⟨g, 1, none⟩ = some (.int .i64 ((p + 4 : Nat))) ∧ w1.cell? ⟨g, 2, none⟩ = some (.pointer none) := fun w1 h1 h2 => by
      refine ⟨?_, RB.c1 (s := { s with p := p + 4, no := none }) h1, RB.c2 (s := { s with p := p + 4, no := none }) h1⟩
      have h0 : w1.cell? ⟨g, 0, none⟩ = some (.slice s.a s.n s.c) := RB.c0 (s := { s with p := p + 4, no := none }) h1
      rw [h0, HFn.out]
    by_cases hq : p + 4 < l.length
    · rw [if_pos hq]
      have hqI : ((p + 4 : Nat) : Int) < (l.length : Int) := by omega
      go_enter Tryd.func29, Tryd.ntmps29
      go_wp2_with fail
      refine HN.mono ?_
      rintro e w1 ⟨rfl, h1, h2⟩
      obtain ⟨c0, c1, c2⟩ := pre w1 h1 h2
      have H1 : Hid (Rx w1 g s (.ok (p + 4))) := h1
      clear HN x1 h1 pre
      go_wp2_with fail
      go_quiet (fail)
      go_wp2_with fail
      refine (refuse_any g { s with p := p + 4, no := none } (p + 4) 13 _ (Rx.below H1.out (below_drawn w1 _))).mono ?_
      rintro e w2 ⟨rfl, h3, h4⟩
      go_wp2_with fail
      go_end0
      exact ⟨rfl, (h2.trans (But.of_below ((below_drawn w1 _).mono h2.size))).trans (h4.mono (Nat.le_trans h2.size (below_drawn w1 _).size)), h3⟩
    · rw [if_neg hq]
      have hqI : ¬ ((p + 4 : Nat) : Int) < (l.length : Int) := by omega
      have hS := fun wx (hb : Oc.BS wx s.a l) => Oc.sum_any s.a s.c (l.take p) wx (by simp; omega) (hb.take p)
      have hpl : (l.take p).length = p := by simp; omega
      rw [hpl] at hS
      have hcl := Oc.crc_lt (l.take p)
      obtain ⟨cr, hcr⟩ : ∃ cr, cr = Oc.crc (l.take p) := ⟨_, rfl⟩
      rw [← hcr] at hS hcl ⊢
      have hp1 : (0 : Int) ≤ (p : Int) := by omega
      have hp2 : (p : Int) ≤ (s.c : Int) := by omega
      by_cases hc : n = cr
      · rw [if_neg (by simpa using hc)]
        have e2 : ((n : Int) == (cr : Int)) = true := by simp; omega
        go_enter Tryd.func29, Tryd.ntmps29
        go_wp2_with fail
        refine HN.mono ?_
        rintro e w1 ⟨rfl, h1, h2⟩
        obtain ⟨c0, c1, c2⟩ := pre w1 h1 h2
        have H1 : Hid (Rx w1 g s (.ok (p + 4))) := h1
        have hbs1 := (HF0.out.step HW0.out h2 hgl).at'
        clear HN x1 h1 pre
        go_wp2_with fail
        go_quiet (fail)
        go_wp2_with fail
        refine (hS _ (hbs1.below (below_drawn w1 _))).mono ?_
        rintro e w2 ⟨rfl, hb2⟩
        have B2 : Below w1.heap.size w1 w2 := (below_drawn w1 _).trans (hb2.mono (below_drawn w1 _).size)
        have H2 : Hid (Rx w2 g s (.ok (p + 4))) := Rx.below H1.out B2
        clear hS hbs1 hb2 c0 c1 c2
        go_wp2_with fail
        go_end0
        exact ⟨rfl, h2.trans (But.of_below (B2.mono h2.size)), H2.out⟩
      · rw [if_pos hc]
        have e2 : ((n : Int) == (cr : Int)) = false := by simp; omega
        go_enter Tryd.func29, Tryd.ntmps29
        go_wp2_with fail
        refine HN.mono ?_
        rintro e w1 ⟨rfl, h1, h2⟩
        obtain ⟨c0, c1, c2⟩ := pre w1 h1 h2
        have H1 : Hid (Rx w1 g s (.ok (p + 4))) := h1
        have hbs1 := (HF0.out.step HW0.out h2 hgl).at'
        clear HN x1 h1 pre
        go_wp2_with fail
        go_quiet (fail)
        go_wp2_with fail
        refine (hS _ (hbs1.below (below_drawn w1 _))).mono ?_
        rintro e w2 ⟨rfl, hb2⟩
        have B2 : Below w1.heap.size w1 w2 := (below_drawn w1 _).trans (hb2.mono (below_drawn w1 _).size)
        have H2 : Hid (Rx w2 g s (.ok (p + 4))) := Rx.below H1.out B2
        clear hS hbs1 hb2 c0 c1 c2
        go_wp2_with fail
        refine (refuse_any g { s with p := p + 4, no := none } p 12 w2 H2.out).mono ?_
        rintro e w3 ⟨rfl, h3, h4⟩
        go_wp2_with fail
        go_end0
        exact ⟨rfl, (h2.trans (But.of_below (B2.mono h2.size))).trans (h4.mono (Nat.le_trans h2.size B2.size)), h3⟩
end Go.Proofs.YtplmmamebfpcjaaDoor
end
