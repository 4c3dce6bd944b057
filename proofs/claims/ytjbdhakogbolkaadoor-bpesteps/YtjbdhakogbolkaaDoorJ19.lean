import Derived.Test.YtjbdhakogbolkaaDoorJ18
import Derived.Test.YtjbdhakogbolkaaDoorJ9
import Derived.Test.YtjbdhakogbolkaaDoorJ17
section
/- bpe.Steps: its iterator's contract. -/
namespace Go.Proofs.YtjbdhakogbolkaaDoor
open Go.RowKit Go.Shelf Go.Lib
open Go.Joins Go.Sort
attribute [local go_sem] Oper.semAt_some
set_option linter.unusedVariables false
set_option linter.unusedSimpArgs false
set_option maxRecDepth 100000
def pO (x : HQ.El) : Obj := .cells #[.int .i64 x.k, .int .i64 x.i, .int .i64 x.p, .int .i64 x.q] 86
def actP (a : Act) (x : HQ.El) (b : Nat) : Act := { tmps := (a.tmps.setIfInBounds 19 (HQ.valE x)).setIfInBounds 5 (.pointer (some ⟨b, 0, none⟩)), defers := [] }
/-- bpe.Steps: its captured boxes. -/
theorem steps_in (n : Nat) (p : Option Addr) (s : ByteArray) (w : World) :
    CallsIn Fence.wide n Tryd.prog 12 #[.pointer p, .string s] w fun e w' => e = .returned (.func (.func 33) #[] #[.pointer (some ⟨w.heap.size, 0, none⟩), .pointer (some ⟨w.heap.size + 1, 0, none⟩)]) ∧ w' = (w.alloc (.cells #[.pointer p] 31)).alloc (.cells #[.string s] 9) := by
  refine callsIn_of_wp Tryd.func12 rfl trivial ?_ rfl
  simp only [Tryd.ntmps12, List.size_toArray, List.length_cons, List.length_nil, Nat.reduceAdd, Nat.reduceSub, Array.replicate_succ, Array.replicate_zero, List.push_toArray, List.append_toArray, List.nil_append, List.cons_append]
  gi_wp2
  go_ret
  exact ⟨rfl, rfl⟩
set_option maxHeartbeats 4000000 in
theorem steps1_in (n0 : Nat) (hn0 : 4 ≤ n0) (lp Bm Bs B0 mg lo : Nat) (s : ByteArray) (hs : s.size ≤ 1048576) (ws : List ByteArray) (ms : List Mg) (A B C : List Sp) (wM : World) (J Jx : Nat → List (Nat × Nat) → World → Prop)
    (hMI : ∀ l r k i, mergeM ms l r = some (k, i) → W64 i) (hM : ModelAt wM lo mg ws ms A B C) (W : World) (hB0 : B0 = W.heap.size) (hMw : Below wM.heap.size wM W)
    (hJ : ∀ q pre X Y, J q pre X → RlS B0 q X Y → J q pre Y)
    (hJx : ∀ q pre X Y, Jx q pre X → RlS B0 q X Y → Jx q pre Y)
    (hY : ∀ q pre x W1, B0 ≤ q → q ≤ W1.heap.size → J q pre W1 → (∃ cur i, JS ms (byL s) pre cur ∧ IsN ms cur x.1 x.2 i) → YieldAt Fence.wide (n0 - 1) Tryd.prog lp #[valS x] W1 fun e W' => KeepsFrom B0 W1 W' ∧
      ((e = .returned (.bool true) ∧ J q (pre ++ [x]) W' ∧ KpS wM.heap.size B0 W1 W') ∨ (e = .returned (.bool false) ∧ Jx q (pre ++ [x]) W')))
    (h0 : ∀ q, B0 ≤ q → J q [] W)
    (hBm : Boxed W Bm 31 (.pointer (some ⟨mg, 0, none⟩))) (hBs : Boxed W Bs 9 (.string s)) :
    CallsIn Fence.wide n0 Tryd.prog 33 #[.func (.yield lp) #[] #[], .pointer (some ⟨Bm, 0, none⟩), .pointer (some ⟨Bs, 0, none⟩)] W fun e W' => (∃ v, e = .returned v) ∧
      ∃ q, B0 ≤ q ∧ ((∃ xs, (∃ l, JR ms (byL s) xs l) ∧ J q xs W') ∨ (∃ pre, True ∧ Jx q pre W')) := by
  refine callsIn_of_wp_marks Tryd.func33 rfl trivial ?_ rfl
  simp only [Tryd.ntmps33, List.size_toArray, List.length_cons, List.length_nil, Nat.reduceAdd, Nat.reduceSub, Array.replicate_succ, Array.replicate_zero, List.push_toArray, List.append_toArray, List.nil_append, List.cons_append]
  have cm0 := fun o => cell_alloc_s hBm.cell o
  have cs0 := fun o => cell_alloc_s hBs.cell o
  have ltm : Bm < W.heap.size := hBm.lt
  have lts : Bs < W.heap.size := hBs.lt
  have b1 : Below W.heap.size W (W.alloc (.cells #[.func (.yield lp) #[] #[]] 79)) := (Below.refl _ W).alloc (Nat.le_refl _) _
  have yb1 : Boxed (W.alloc (.cells #[.func (.yield lp) #[] #[]] 79)) W.heap.size 79 (.func (.yield lp) #[] #[]) := Boxed.new W 79 _
  have s1 : (W.alloc (.cells #[.func (.yield lp) #[] #[]] 79)).heap.size = W.heap.size + 1 := by simp
  have HR := refusal_any (some ⟨mg, 0, none⟩) s.size (W.alloc (.cells #[.func (.yield lp) #[] #[]] 79))
  rw [show refuF (some ⟨mg, 0, none⟩) s.size = 0 by unfold refuF; rw [if_neg (by simp), if_neg (by omega)]] at HR
  gi_wp2_with fail
  refine ⟨trivial, fun _ => by omega, (callsIn_wide.2 HR).mono ?_⟩
  rintro e w1 ⟨rfl, he⟩
  rw [← he] at b1 yb1 s1
  have cm1 : w1.cell? ⟨Bm, 0, none⟩ = some (.pointer (some ⟨mg, 0, none⟩)) := by rw [he]; exact cm0 _
  have cs1 : w1.cell? ⟨Bs, 0, none⟩ = some (.string s) := by rw [he]; exact cs0 _
  clear HR he cm0 cs0
  gi_wp2_with fail
  have HN := newCounts_any s.size w1 hs
  refine ⟨trivial, fun _ => by omega, (callsIn_wide.2 HN).mono ?_⟩
  rintro e w2 ⟨rfl, hF2, hb2⟩
  have B2 := b1.trans (hb2.mono (by omega))
  have yb2 := boxed_below_s yb1 hb2
  have cm2 := (hb2.cell (p := ⟨Bm, 0, none⟩) (by show Bm < w1.heap.size; omega)).trans cm1
  have cs2 := (hb2.cell (p := ⟨Bs, 0, none⟩) (by show Bs < w1.heap.size; omega)).trans cs1
  have hs2 := hb2.size
  have hf2 : w1.heap.size < w2.heap.size := (Array.getElem?_eq_some_iff.1 hF2).1
  clear HN cm1 cs1 yb1
  obtain ⟨fb, hfb⟩ : ∃ fb, fb = w1.heap.size := ⟨_, rfl⟩
  rw [← hfb] at hF2 hf2 ⊢
  have hfw : W.heap.size < fb := by omega
  clear hfb
  obtain ⟨w3, hw3⟩ : ∃ w3, w3 = w2.alloc (.cells #[.slice (some ⟨fb, 0, none⟩) (s.size + 1) (s.size + 1)] 80) := ⟨_, rfl⟩
  have hb3 : Below w2.heap.size w2 w3 := by rw [hw3]; exact (Below.refl _ w2).alloc (Nat.le_refl _) _
  have sb3 : Boxed w3 w2.heap.size 80 (.slice (some ⟨fb, 0, none⟩) (s.size + 1) (s.size + 1)) := by
    rw [hw3]; exact Boxed.new w2 80 _
  have s3 : w3.heap.size = w2.heap.size + 1 := by rw [hw3]; simp
  have B3 := B2.trans (hb3.mono (by omega))
  have yb3 := boxed_below_s yb2 hb3
  have cm3 := (hb3.cell (p := ⟨Bm, 0, none⟩) (by show Bm < w2.heap.size; omega)).trans cm2
  have cs3 := (hb3.cell (p := ⟨Bs, 0, none⟩) (by show Bs < w2.heap.size; omega)).trans cs2
  have hF3 := hF2.below hb3
  clear yb2 cm2 cs2 hF2
  gi_wp2_with fail
  rw [← hw3]
  clear hw3
  obtain ⟨sb, hsb⟩ : ∃ sb, sb = w2.heap.size := ⟨_, rfl⟩
  rw [← hsb] at sb3 s3 hf2 ⊢
  clear hsb
  have hB := bytesOf_any s w3.drew hs
  have hd3 : w3.drew.heap.size = w3.heap.size := rfl
  refine wpIn_then_false (wpIn_wide.2 ?_)
  refine wp_region_heldtail 4 (fun w' : World => w'.cell? ⟨Bm, 0, none⟩ = some (.pointer (some ⟨mg, 0, none⟩)) ∧ w'.cell? ⟨Bs, 0, none⟩ = some (.string s)) (by kernel_rfl) (by kernel_rfl) ?_
  refine HL_take (i := 0) (.pointer (some ⟨mg, 0, none⟩)) (by kernel_rfl) rfl (by omega) (by kernel_rfl) (by kernel_rfl) (by kernel_rfl) (fun _ _ _ h => h) (.inl ⟨by kernel_rfl, fun w' hw' => by obtain ⟨q1, q2⟩ := hw'; go_simp⟩) ⟨cm3, cs3⟩ ?_
  simp only [Act.put, List.getElem_toArray, List.getElem_cons_zero, List.getElem_cons_succ, List.setIfInBounds_toArray, List.set_cons_zero, List.set_cons_succ]
  refine HL_take (i := 1) (.string s) (by kernel_rfl) rfl (by omega) (by kernel_rfl) (by kernel_rfl) (by kernel_rfl) (fun _ _ _ h => h) (.inl ⟨by kernel_rfl, fun w' hw' => by obtain ⟨q1, q2⟩ := hw'; go_simp⟩) ⟨cm3, cs3⟩ ?_
  simp only [Act.put, List.getElem_toArray, List.getElem_cons_zero, List.getElem_cons_succ, List.setIfInBounds_toArray, List.set_cons_zero, List.set_cons_succ]
  refine HL_one (i := 2) rfl (by omega) (by kernel_rfl) rfl ?_
  refine wp_enter (f := 31) (args := #[.string s]) (by simp [execOp, resolve]; rfl) ?_
  refine hB.mono ?_
  rintro e w4 ⟨rfl, hI4, hb4⟩
  rw [hd3] at hI4 hb4 ⊢
  have hb34 : Below w3.heap.size w3 w4 := ⟨hb4.os, hb4.tape, hb4.output, hb4.size, hb4.block⟩
  have B4 := B3.trans (hb34.mono (by omega))
  have cm4 := (hb34.cell (p := ⟨Bm, 0, none⟩) (by show Bm < w3.heap.size; omega)).trans cm3
  have cs4 := (hb34.cell (p := ⟨Bs, 0, none⟩) (by show Bs < w3.heap.size; omega)).trans cs3
  have hs4 := hb34.size
  have hMs := hMw.size
  obtain ⟨base, hbase⟩ : ∃ base, base = w3.heap.size := ⟨_, rfl⟩
  rw [← hbase] at hI4 hb34 hs4 s3 ⊢
  have HBS : Hid (base = w3.heap.size) := hbase
  have hM4 : Below wM.heap.size wM w4 := hMw.trans (B4.mono hMs)
  have HN := newRow_any base mg base lo (some ⟨base, 0, none⟩) s.size s.size (byJ s) ws ms A B C w4 hs (.inr ⟨rfl, hI4, Nat.le_refl _⟩) (hM.below hM4) (fun k _ => by have := byJ_range s k; unfold W64; omega) hs4
  refine ⟨_, rfl, ⟨cm4, cs4⟩, ?_⟩
  simp only [Act.put, List.getElem_toArray, List.getElem_cons_zero, List.getElem_cons_succ, List.setIfInBounds_toArray, List.set_cons_zero, List.set_cons_succ]
  refine HL_one (i := 3) rfl (by omega) (by kernel_rfl) rfl ?_
  refine wp_enter (f := 30) (args := #[.pointer (some ⟨mg, 0, none⟩), .slice (some ⟨base, 0, none⟩) s.size s.size]) (by simp [execOp, resolve]; rfl) ?_
  refine HN.mono ?_
  rintro e w5 ⟨r, ib', cg, cb, hg, hv, H, rfl, hR5, hib, hlt, hH5, hC5, hl5, hb5⟩
  have cm5 := (hb5.cell (p := ⟨Bm, 0, none⟩) (by show Bm < w4.heap.size; omega)).trans cm4
  have cs5 := (hb5.cell (p := ⟨Bs, 0, none⟩) (by show Bs < w4.heap.size; omega)).trans cs4
  have B5 := B4.trans (hb5.mono (by omega))
  have B35 : Below base w3 w5 := hb34.trans (hb5.mono hs4)
  have hs5 := hb5.size
  clear HN hB hI4
  refine ⟨_, rfl, ⟨cm5, cs5⟩, ?_⟩
  simp only [Act.put, List.getElem_toArray, List.getElem_cons_zero, List.getElem_cons_succ, List.setIfInBounds_toArray, List.set_cons_zero, List.set_cons_succ]
  refine ⟨by kernel_rfl, ?_⟩
  simp only [List.drop_succ_cons, List.drop_zero]
  have HJ := callsIn_wide.1 (joins_in 1 r w5)
  go_wp2_with fail
  refine HJ.mono ?_
  rintro e w6 ⟨rfl, hw6⟩
  clear HJ cm3 cs3 cm4 cs4 cm5 cs5
  have hb6 : Below w5.heap.size w5 w6 := by rw [hw6]; exact (Below.refl _ w5).alloc (Nat.le_refl _) _
  have s6 : w6.heap.size = w5.heap.size + 1 := by rw [hw6]; simp
  have hx6 : w6.heap[w5.heap.size]? = some (.cells #[.pointer (some ⟨r, 0, none⟩)] 76 (0, 0)) := by rw [hw6]; exact heap_alloc_new w5 _
  clear hw6
  obtain ⟨z, hz⟩ : ∃ z, z = w5.heap.size := ⟨_, rfl⟩
  have HZ : Hid (z = w5.heap.size) := hz
  rw [← hz] at s6 hx6 ⊢
  have B6 : Below W.heap.size W w6 := B5.trans (hb6.mono (by omega))
  have B36 : Below base w3 w6 := B35.trans (hb6.mono (by omega))
  have hcn : CH.cntG (CH.inn0 s.size) s.size = s.size := CH.cnt_all (Nat.le_refl _)
  have hh6 : r < z + 1 ∧ ib' < z + 1 ∧ cg < z + 1 ∧ cb < z + 1 ∧ hg < z + 1 := by omega
  have hR6 := hR5.below hb6
  have hM6 : Below wM.heap.size wM w6 := hMw.trans (B6.mono hMs)
  have hbz : base ≤ z := by omega
  have hG := joins_G (n0 - 1) (by omega) z base (z + 1) r mg ib' cg cb hg lo (some ⟨base, 0, none⟩) s.size s.size hv (CH.inn0 s.size, byJ s) H ws ms A B C wM hMI hM (by omega) hib hh6 (by omega) (by omega) w6 (by omega) hx6 hM6 (by rw [hcn]; exact hR6) (fun k _ => by have := byJ_range s k; show W64 (byJ s k); unfold W64; omega) hH5 hC5 (by rw [hcn]; omega)
  have yb6 := boxed_below yb3 B36 (by omega)
  have sb6 := boxed_below sb3 B36 (by omega)
  have hF6 : FenAt w6 fb s.size (fun _ => true) := (B36.block fb (by omega)).trans hF3
  have hMf : wM.heap.size ≤ W.heap.size := hMs
  clear hR6 hR5 hx6 hC5 hl5 hb5 hb6 B35 B5 B4 B3 B2 hb4 hb34 hb3 hb2 b1 yb3 sb3 hF3 hz hbase hd3 hib hH5
  have hsz : s.size ≤ 1048576 := hs
  have hbb : B0 ≤ base := by omega
  have hfb0 : B0 ≤ fb ∧ fb < base := by omega
  have hsb0 : B0 ≤ sb ∧ sb < base ∧ sb ≠ fb := by omega
  have hyb0 : W.heap.size < base ∧ W.heap.size ≠ fb ∧ W.heap.size ≠ sb := by omega
  have hJ6 : J (z + 3) [] w6 := hJ _ _ _ _ (h0 (z + 3) (by omega)) (by rw [hB0]; exact RlS.of_below B6 (Nat.le_refl _))
  have hM0b : wM.heap.size ≤ fb := by omega
  have HB0 : Hid (B0 = W.heap.size) := hB0
  go_wp2_with fail
  gi_wp2_with fail
  refine wpIn_rangeFunc_G2 rfl (by omega) (gf := 56) (lb := #[.pointer (some ⟨z, 0, none⟩)]) rfl trivial (enters_of Tryd.func56 (by kernel_rfl) rfl) hG
    (fun q A B k o _ hrl hk hk2 ho hc => hrl.block k o (by omega) ho (fun ⟨_, _, e⟩ => by rw [e] at hc; cases hc))
    (fun xs A o o' h ho hc => ⟨h.1, by
      obtain ⟨hv, H, h2⟩ := h.2
      exact ⟨hv, H, h2.putObj (by omega) hh6 ho hc⟩⟩) (fun h k => h.trans k) (fun W o o' h ho _ => KpP.putObj W _ o o' h ho (by omega)) (Below.refl _ _) (fun _ => rfl)
    (fun q pre U => ∃ st, JS ms (byL s) st (vwJ (stJ (CH.inn0 s.size, byJ s) pre).1 s.size (stJ (CH.inn0 s.size, byJ s) pre).2) ∧ J (z + 3) st U ∧ (∃ S, FenAt U fb s.size S ∧ ∀ y, y < s.size → S y = (stJ (CH.inn0 s.size, byJ s) pre).1 y) ∧ Boxed U W.heap.size 79 (.func (.yield lp) #[] #[]) ∧ Boxed U sb 80 (.slice (some ⟨fb, 0, none⟩) (s.size + 1) (s.size + 1)))
    (fun c q pre U => c = .ret ∧ base ≤ U.heap.size ∧ ∃ st, Jx (z + 3) st U)
    ?own1 ?own2 ?own3 ?own4 ?start actP pO (fun _ => rfl) ?assign ?body ?done ?stop
  case own1 =>
    rintro q pre U U' row ⟨st, h1, h2, ⟨S, h3, h4⟩, h5, h6⟩ hg hr
    have hUs : base ≤ U.heap.size ∨ True := .inr trivial
    have hk : ∀ k o, k < base → U.heap[k]? = some o → U'.heap[k]? = some o := fun k o hk ho => (hg.block k (Array.getElem?_eq_some_iff.1 ho).1 (fun e => by have := (hr k e.symm).1; omega)).trans ho
    refine ⟨st, h1, hJ _ _ _ _ h2 ⟨hg.os, hg.tape, hg.output, hg.size, fun k hkk => ?_, fun k o _ ho _ hc => (hg.block k (Array.getElem?_eq_some_iff.1 ho).1 (fun e => by
      obtain ⟨_, o', ho', hc'⟩ := hr k e.symm
      rw [ho] at ho'; cases ho'; rw [hc] at hc'; cases hc')).trans ho⟩, ⟨S, hk _ _ (by omega) h3, h4⟩, hk _ _ (by omega) h5, hk _ _ (by omega) h6⟩
    exact hg.block k (by have := h6.lt; have := h3; omega) (fun e => by have := (hr k e.symm).1; omega)
  case own2 =>
    rintro c q pre U U' row ⟨h1, hz, st, h2⟩ hg hr
    exact ⟨h1, Nat.le_trans hz hg.size, st, hJx _ _ _ _ h2 (RlS.of_grown hg (by omega) (fun r e => ⟨by have := (hr r e).1; omega, .inr (hr r e).2⟩))⟩
  case own3 =>
    rintro q pre X Y ⟨st, h1, h2, ⟨S, h3, h4⟩, h5, h6⟩ hXY
    have hk : ∀ k o, k < base → X.heap[k]? = some o → Y.heap[k]? = some o := fun k o hk ho => (hXY.old k hk).trans ho
    exact ⟨st, h1, hJ _ _ _ _ h2 (hXY.toS hbb (by omega)), ⟨S, hk _ _ (by omega) h3, h4⟩, hk _ _ (by omega) h5, hk _ _ (by omega) h6⟩
  case own4 =>
    rintro c q pre X Y ⟨h1, hz, st, h2⟩ hXY
    exact ⟨h1, Nat.le_trans hz hXY.size, st, hJx _ _ _ _ h2 (hXY.toS hbb (by omega))⟩
  case start =>
    intro q _
    refine ⟨[], by rw [show stJ (CH.inn0 s.size, byJ s) [] = (CH.inn0 s.size, byJ s) from rfl, vw_by]; exact JS.nil, hJ6, ⟨_, hF6, fun y hy => ?_⟩, yb6, sb6⟩
    show true = CH.inn0 s.size y
    unfold CH.inn0
    exact (decide_eq_true hy).symm
  case assign =>
    rintro q pre x U K ⟨st, h1, h2, ⟨S, h3, h4⟩, h5, h6⟩ _ hq hK
    have hb : Below U.heap.size U (U.alloc (pO x)) := (Below.refl _ U).alloc (Nat.le_refl _) _
    have hlt := h6.lt
    unfold HQ.valE
    gi_wp2
    exact hK _ _ U.heap.size ((KeepsOthers.alloc _ _).from _) (KpP.of_below hb (by omega)) ⟨st, h1, hJ _ _ _ _ h2 (RlS.of_below hb (by omega)), ⟨S, h3.below hb, h4⟩, boxed_below_s h5 hb, boxed_below_s h6 hb⟩ (heap_alloc_new U _) (by unfold actP HQ.valE; simp)
  case body =>
    rintro q pre x b U ⟨rr, hrr⟩ hq1 hq2 ⟨st, h1, h2, ⟨S, h3, h4⟩, h5, h6⟩ hbo hok
    obtain ⟨p, k, qn, e1, e2, e3, hp, hqn, hpq, hSq, hcut, ep, ek⟩ := hok.step
    obtain ⟨g1, g2⟩ := hok.isN
    have hsnoc := stJ_snoc (CH.inn0 s.size, byJ s) pre x
    obtain ⟨s0, hs0⟩ : ∃ s0, s0 = stJ (CH.inn0 s.size, byJ s) pre := ⟨_, rfl⟩
    rw [← hs0] at h1 h4 hSq hcut g1 g2 hsnoc
    rw [ep, ek] at g1
    rw [ep] at g2
    have hlt6 := h6.lt
    have hlt3 : fb < U.heap.size := (Array.getElem?_eq_some_iff.1 h3).1
    unfold pO at hbo
    rw [e1, e2, e3] at hbo
    have HC := fcut_any fb s.size qn (s.size + 1) S U hsz hqn (by rw [h4 qn hqn]; exact hSq) h3
    have p3 := cell_of_block hbo 3
    simp only [List.getElem?_toArray, List.getElem?_cons_zero, List.getElem?_cons_succ] at p3
    have k6 := h6.cell
    have hbf : b ≠ fb := fun e => by
      subst e
      rw [show U.heap[b]? = _ from h3] at hbo
      injection hbo with hbo
      injection hbo with _ ht _
      exact absurd ht (by decide)
    have hbl : b < U.heap.size := (Array.getElem?_eq_some_iff.1 hbo).1
    simp only [actP, List.setIfInBounds_toArray, List.set_cons_succ, List.set_cons_zero]
    clear hs0 hok
    gi_wp2_with fail
    refine ⟨trivial, fun _ => by omega, (CallsIn.inRound _ (callsIn_wide.2 HC)).mono ?_⟩
    rintro e U1 ⟨rfl, hF1, hgr⟩
    have hb1 := (hgr.block b hbl (fun e => by cases e; exact hbf rfl)).trans hbo
    have y1 : Boxed U1 W.heap.size 79 (.func (.yield lp) #[] #[]) := (hgr.block _ (by omega) (fun e => by have := Option.some.inj e; omega)).trans h5
    have z1 : Boxed U1 sb 80 (.slice (some ⟨fb, 0, none⟩) (s.size + 1) (s.size + 1)) := (hgr.block _ (by omega) (fun e => by have := Option.some.inj e; omega)).trans h6
    have hJ1 : J (z + 3) st U1 := hJ _ _ _ _ h2 (RlS.of_grown hgr (by omega) (fun r e => by cases e; exact ⟨by omega, .inl (by omega)⟩))
    have hgz := hgr.size
    have cy := y1.cell
    have cz := z1.cell
    have p0 := cell_of_block hb1 0
    have p2 := cell_of_block hb1 2
    simp only [List.getElem?_toArray, List.getElem?_cons_zero, List.getElem?_cons_succ] at p0 p2
    have ky := cell_regrown (w := U1) cy
    have kz := cell_regrown (w := U1) cz
    have k0 := cell_regrown (w := U1) p0
    have k2 := cell_regrown (w := U1) p2
    have hagree : ∀ y, y < p → (fun y => if y = qn then false else S y) y = s0.1 y := fun y hy => by
      simp only
      rw [if_neg (by omega), h4 y (by omega)]
    have HA : ∀ U', Below U1.heap.size U1 U' → Calls Tryd.prog 37 #[.slice (some ⟨fb, 0, none⟩) (s.size + 1) (s.size + 1), .int .i64 (p : Nat)] U' fun e w' => e = .returned (.int .i64 (CH.cntG s0.1 p : Nat)) ∧ Below U'.heap.size U' w' := fun U' hb => by
      refine (ahead_any fb s.size p (s.size + 1) _ U' hsz (by omega) (hF1.below hb)).mono ?_
      rintro e w' ⟨rfl, rfl⟩
      rw [cntB_cnt hagree]
      exact ⟨rfl, Below.refl _ _⟩
    clear HC p3 k6 cy cz p0 p2
    gi_wp2_with fail
    refine wpIn_region_quiet_tail (C := fun w' => ∃ p : Regrown, w' = grow (redrawn U1 p.d) p.os) 8 (by kernel_rfl) (by kernel_rfl) (by kernel_rfl) ⟨⟨_, #[]⟩, by rw [grow_empty]; rfl⟩ ?_
    simp only [List.take_succ_cons, List.take_zero, List.drop_succ_cons, List.drop_zero]
    repeat (gi_big_quiet_step (fail))
    refine wpQuietIn_step (fun _ _ _ _ => trivial) (fun K hK => ?_)
    go_simp
    apply Exists.intro
    refine ⟨fun _ => ?_, hK _ ?_⟩
    · exact ⟨fun _ => by omega, CallsIn.regrown_of (CallsIn.inRound _ (callsIn_wide.2 (HA _ (below_regrown _ _ _))))⟩
    clear hK K
    repeat (gi_big_quiet_step (fail))
    refine wpQuietIn_nil ?_
    intro W5 hw'
    have hb5 : Below U1.heap.size U1 W5 := by
      obtain ⟨⟨dq, osq⟩, rfl⟩ := hw'
      exact below_regrown _ _ _
    have hb5z := hb5.size
    clear hw' ky kz k0 k2 HA
    have hJ5 := hJ _ _ _ _ hJ1 (RlS.of_below hb5 (by omega))
    have y5 := boxed_below_s y1 hb5
    have z5 := boxed_below_s z1 hb5
    have hF5 := hF1.below hb5
    obtain ⟨fn, tmps, assign, body, hy, hRd⟩ := hY (z + 3) st (k, CH.cntG s0.1 p) W5 (by omega) (by omega) hJ5 ⟨_, _, h1, g1⟩
    unfold valS at hy
    dsimp only at hy
    gi_wp2_with fail
    refine ⟨fun _ => by omega, (roundIn_any hRd).mono ?_⟩
    have hcl : ∀ k' o, B0 ≤ k' → o.isCells = true → U1.heap[k']? = some o → W5.heap[k']? = some o := fun k' o _ _ ho => (hb5.block k' (Array.getElem?_eq_some_iff.1 ho).1).trans ho
    have hkf5 : KeepsFrom w6.heap.size U W5 := by
      have k1 : KeepsFrom w6.heap.size U U1 := KeepsFrom.of_grownBy hgr (fun j e => by cases e; omega)
      exact kf_chain k1 ⟨hb5.size, fun k' o _ ho _ => (hb5.block k' (Array.getElem?_eq_some_iff.1 ho).1).trans ho⟩
    have hkp5 : KpP wM.heap.size base (z + 1) U W5 := (KpP.of_grown hgr (by omega) (fun r e => by
      cases e
      refine ⟨by omega, .inl (by omega), fun o ho ⟨_, _, he⟩ => ?_⟩
      rw [show U.heap[fb]? = _ from h3] at ho
      rw [← Option.some.inj ho] at he
      injection he with _ ht _
      exact absurd ht (by decide))).trans (KpP.of_below hb5 (by omega))
    rintro e W6 ⟨hkf, ⟨rfl, hj6, hk6⟩ | ⟨rfl, hjx⟩⟩
    · have y6 := hk6.cells _ _ (.inl (by omega)) rfl y5
      have z6 := hk6.cells _ _ (.inl (by omega)) rfl z5
      have f6 := hk6.cells _ _ (.inl (by omega)) rfl hF5
      clear hy hRd
      gi_wp2_with fail
      refine ⟨kf_chain hkf5 (kf_higher hkf (by omega)), hkp5.trans (hk6.toP hbb), st ++ [(k, CH.cntG s0.1 p)], ?_, hj6, ⟨_, f6, fun y hy => ?_⟩, y6, z6⟩
      · rw [hsnoc, g2]
        exact JS.snoc h1 g1
      · rw [hsnoc, hcut]
        show (if y = qn then false else S y) = CH.cutP s0.1 qn y
        unfold CH.cutP
        rw [h4 y hy]
    · clear hy hRd
      gi_wp2_with fail
      have := hkf.size
      exact ⟨kf_chain hkf5 (kf_higher hkf (by omega)), rfl, by omega, _, hjx⟩
  case done =>
    rintro D q ys U rfl hq ⟨hN, hv', H', hRW⟩ ⟨st, h1, h2, _, _, h6⟩ hDk
    have hlt6 := h6.lt
    gi_wp2_with fail
    refine ⟨by simp, .inl ⟨_, _, rfl, run_takeDeferred hDk, ?_⟩⟩
    exact ⟨_, results_none rfl _ _ _, ⟨_, rfl⟩, z + 3, by omega, .inl ⟨st, ⟨_, h1.fin hN.noN⟩, hJ _ _ _ _ h2 (RlS.of_grown (grownBy_putObj' U _ _) (by omega) (fun r e => by cases e; exact ⟨by omega, .inr ⟨_, hDk, rfl⟩⟩))⟩⟩
  case stop =>
    rintro D q c pre U rfl hq hp ⟨rfl, hUs, st, hjx⟩ hDk
    gi_wp2_with fail
    refine ⟨by simp, .inl ⟨_, _, rfl, run_takeDeferred hDk, ?_⟩⟩
    exact ⟨_, results_none rfl _ _ _, ⟨_, rfl⟩, z + 3, by omega, .inr ⟨st, trivial, hJx _ _ _ _ hjx (RlS.of_grown (grownBy_putObj' U _ _) (by omega) (fun r e => by cases e; exact ⟨by omega, .inr ⟨_, hDk, rfl⟩⟩))⟩⟩
/-- bpe.Steps: its contract, for a range over it. -/
theorem steps_G (n0 : Nat) (hn0 : 4 ≤ n0) (Bm Bs mg lo : Nat) (s : ByteArray) (hs : s.size ≤ 1048576) (ws : List ByteArray) (ms : List Mg) (A B C : List Sp) (wM : World)
    (hMI : ∀ l r k i, mergeM ms l r = some (k, i) → W64 i) (hM : ModelAt wM lo mg ws ms A B C) (w : World) (hMw : Below wM.heap.size wM w)
    (hBm : Boxed w Bm 31 (.pointer (some ⟨mg, 0, none⟩))) (hBs : Boxed w Bs 9 (.string s)) :
    SeqG Fence.wide n0 Tryd.prog 33 #[.pointer (some ⟨Bm, 0, none⟩), .pointer (some ⟨Bs, 0, none⟩)] (fun x : Nat × Nat => #[valS x]) RlS (fun B0 => KpS wM.heap.size B0) (fun pre x => ∃ cur i, JS ms (byL s) pre cur ∧ IsN ms cur x.1 x.2 i) (fun xs _ => ∃ l, JR ms (byL s) xs l) (fun _ => True) w := by
  intro l J Jx W hW hJ hJx hY h0
  exact steps1_in n0 hn0 l Bm Bs W.heap.size mg lo s hs ws ms A B C wM J Jx hMI hM W rfl (hMw.trans (hW.mono hMw.size)) hJ hJx hY h0 ((hW.block Bm hBm.lt).trans hBm) ((hW.block Bs hBs.lt).trans hBs)
end Go.Proofs.YtjbdhakogbolkaaDoor
end
section
/- bpe in plain mathematics: words of ids; the step that is next, reckoned. -/
namespace Go.Proofs.YtjbdhakogbolkaaDoor
set_option linter.unusedVariables false
/-- The next step, reckoned. -/
def nxC (ms : List Mg) (l : List Int) : Nat → Option (Nat × Nat × Int)
  | 0 => none
  | m + 1 => match mpJ ms l m with
    | none => nxC ms l m
    | some x => match nxC ms l m with
      | none => some (x.1, m, x.2)
      | some y => if x.1 < y.1 then some (x.1, m, x.2) else some y
theorem nxC_spec (ms : List Mg) (l : List Int) : ∀ m, match nxC ms l m with
    | none => ∀ j, j < m → mpJ ms l j = none
    | some y => y.2.1 < m ∧ mpJ ms l y.2.1 = some (y.1, y.2.2) ∧ ∀ j k' i', j < m → mpJ ms l j = some (k', i') → y.1 < k' ∨ (y.1 = k' ∧ y.2.1 ≤ j)
  | 0 => fun j h => by omega
  | m + 1 => by
    have ih := nxC_spec ms l m
    unfold nxC
    cases hm : mpJ ms l m with
    | none =>
      simp only
      cases hr : nxC ms l m with
      | none =>
        rw [hr] at ih
        simp only at ih ⊢
        intro j hj
        by_cases e : j = m
        · rw [e]; exact hm
        · exact ih j (by omega)
      | some y =>
        rw [hr] at ih
        simp only at ih ⊢
        refine ⟨by omega, ih.2.1, fun j k' i' hj h => ?_⟩
        by_cases e : j = m
        · rw [e, hm] at h; cases h
        · exact ih.2.2 j k' i' (by omega) h
    | some x =>
      simp only
      cases hr : nxC ms l m with
      | none =>
        rw [hr] at ih
        simp only at ih ⊢
        refine ⟨by omega, hm, fun j k' i' hj h => ?_⟩
        by_cases e : j = m
        · rw [e, hm] at h
          simp only [Option.some.injEq] at h
          subst h
          right; exact ⟨rfl, by omega⟩
        · rw [ih j (by omega)] at h; cases h
      | some y =>
        rw [hr] at ih
        simp only at ih ⊢
        by_cases hk : x.1 < y.1
        · rw [if_pos hk]
          simp only
          refine ⟨by omega, hm, fun j k' i' hj h => ?_⟩
          by_cases e : j = m
          · rw [e, hm] at h
            simp only [Option.some.injEq] at h
            subst h
            right; exact ⟨rfl, by omega⟩
          · have := ih.2.2 j k' i' (by omega) h
            omega
        · rw [if_neg hk]
          refine ⟨by omega, ih.2.1, fun j k' i' hj h => ?_⟩
          by_cases e : j = m
          · rw [e, hm] at h
            simp only [Option.some.injEq] at h
            subst h
            have := ih.1
            simp only at hk
            omega
          · exact ih.2.2 j k' i' (by omega) h
theorem nxC_some {ms : List Mg} {l : List Int} {k a : Nat} {i : Int} (h : nxC ms l l.length = some (k, a, i)) : IsN ms l k a i := by
  have hs := nxC_spec ms l l.length
  rw [h] at hs
  exact ⟨hs.2.1, fun j k' i' hj => hs.2.2 j k' i' (by have := mpJ_lt hj; omega) hj⟩
theorem nxC_none {ms : List Mg} {l : List Int} (h : nxC ms l l.length = none) : NoN ms l := by
  have hs := nxC_spec ms l l.length
  rw [h] at hs
  intro j
  cases hj : mpJ ms l j with
  | none => rfl
  | some x => rw [← hj]; exact hs j (by have := mpJ_lt hj; omega)
/-- All ids are known. -/
def KnJ (ws : List ByteArray) (l : List Int) : Prop := ∀ x ∈ l, ∃ w, wordM ws x = some w
/-- The words of ids, one behind the other. -/
def txJ (ws : List ByteArray) (l : List Int) : List UInt8 := l.flatMap fun x => ((wordM ws x).getD ⟨#[]⟩).data.toList
theorem txJ_append (ws : List ByteArray) (a b : List Int) : txJ ws (a ++ b) = txJ ws a ++ txJ ws b := by unfold txJ; rw [List.flatMap_append]
/-- The two at a place, and what became of them. -/
theorem repl_parts {l : List Int} {a : Nat} {i x y : Int} (hx : l[a]? = some x) (hy : l[a + 1]? = some y) : l = l.take a ++ x :: y :: l.drop (a + 2) ∧ repl l a i = l.take a ++ i :: l.drop (a + 2) := by
  have h1 := (List.getElem?_eq_some_iff.1 hx)
  have h2 := (List.getElem?_eq_some_iff.1 hy)
  obtain ⟨ha, hxe⟩ := h1
  obtain ⟨hb, hye⟩ := h2
  constructor
  · rw [← hxe, ← hye, List.getElem_cons_drop, List.getElem_cons_drop, List.take_append_drop]
  · unfold repl
    rw [List.eraseIdx_eq_take_drop_succ]
    apply List.ext_getElem?
    intro j
    rcases Nat.lt_trichotomy j a with h | h | h
    · rw [List.getElem?_append_left (by simp; omega), List.getElem?_append_left (by simp; omega), List.getElem?_take, List.getElem?_take, if_pos (by omega), if_pos h, List.getElem?_set, if_neg (by omega)]
    · subst h
      rw [List.getElem?_append_left (by simp; omega), List.getElem?_append_right (by simp; omega), List.getElem?_take, if_pos (by omega), List.getElem?_set]
      simp [ha, Nat.min_eq_left (Nat.le_of_lt ha)]
    · rw [List.getElem?_append_right (by simp; omega), List.getElem?_append_right (by simp; omega)]
      rw [List.length_take, List.length_take, List.length_set, Nat.min_eq_left (by omega), Nat.min_eq_left (by omega), List.getElem?_drop, List.getElem?_set, if_neg (by omega), show j - a = (j - a - 1) + 1 by omega, List.getElem?_cons_succ, List.getElem?_drop]
      congr 1
      try omega
theorem mergeM_get {ms : List Mg} {l r : Int} {k : Nat} {i : Int} (h : mergeM ms l r = some (k, i)) : ∃ x, ms[k]? = some x ∧ x.l = l ∧ x.r = r ∧ x.i = i := by
  unfold mergeM at h
  cases hr : rankM ms l r with
  | none => rw [hr] at h; cases h
  | some k' =>
    rw [hr] at h
    simp only [Option.bind_some] at h
    obtain ⟨x, hx, hp, _⟩ := rankM_get hr
    rw [hx] at h
    simp only [Option.map_some, Option.some.injEq, Prod.mk.injEq] at h
    obtain ⟨rfl, rfl⟩ := h
    unfold pairB at hp
    simp only [Bool.and_eq_true, beq_iff_eq] at hp
    exact ⟨x, hx, hp.1, hp.2, rfl⟩
theorem merge_word {ws : List ByteArray} {ms : List Mg} {A B C : List Sp} (hk : MOk ws ms A B C) {l r : Int} {k : Nat} {i : Int} (h : mergeM ms l r = some (k, i)) : wordM ws i = some (joinM ws l r) := by
  obtain ⟨x, hx, rfl, rfl, rfl⟩ := mergeM_get h
  have hc := hk.cuts k (List.getElem?_eq_some_iff.1 hx).1
  have hc0 : cutM ws ms k = 0 := by
    unfold badM at hc
    by_cases h0 : cutM ws ms k ≠ 0
    · rw [if_pos h0] at hc; exact absurd hc h0
    · simpa using h0
  unfold cutM at hc0
  rw [hx] at hc0
  simp only at hc0
  split at hc0
  · cases hc0
  · split at hc0
    · cases hc0
    · split at hc0
      · cases hc0
      · rename_i h3
        simpa using h3
theorem isN_parts {ms : List Mg} {l : List Int} {k a : Nat} {i : Int} (h : mpJ ms l a = some (k, i)) : ∃ x y, l[a]? = some x ∧ l[a + 1]? = some y ∧ mergeM ms x y = some (k, i) := by
  unfold mpJ at h
  cases h1 : l[a]? with
  | none => rw [h1] at h; cases h
  | some x =>
    cases h2 : l[a + 1]? with
    | none => rw [h1, h2] at h; cases h
    | some y =>
      rw [h1, h2] at h
      exact ⟨x, y, rfl, rfl, h⟩
theorem repl_words {ws : List ByteArray} {ms : List Mg} {A B C : List Sp} (hk : MOk ws ms A B C) {l : List Int} {k a : Nat} {i : Int} (h : mpJ ms l a = some (k, i)) (hl : KnJ ws l) : KnJ ws (repl l a i) ∧ txJ ws (repl l a i) = txJ ws l := by
  obtain ⟨x, y, hx, hy, hm⟩ := isN_parts h
  obtain ⟨h1, h2⟩ := repl_parts (i := i) hx hy
  have hw := merge_word hk hm
  refine ⟨fun z hz => ?_, ?_⟩
  · rw [h2] at hz
    rcases List.mem_append.1 hz with hz | hz
    · exact hl z (List.mem_of_mem_take hz)
    · rcases List.mem_cons.1 hz with rfl | hz
      · exact ⟨_, hw⟩
      · exact hl z (List.mem_of_mem_drop hz)
  · rw [h2]
    conv => rhs; rw [h1]
    rw [txJ_append, txJ_append]
    congr 1
    unfold txJ
    rw [List.flatMap_cons, List.flatMap_cons, List.flatMap_cons, hw, ← List.append_assoc]
    congr 1
    try (unfold joinM; simp [ByteArray.data_append])
theorem JR.words {ws : List ByteArray} {ms : List Mg} {A B C : List Sp} (hk : MOk ws ms A B C) {l : List Int} {st : List (Nat × Nat)} {r : List Int} (h : JR ms l st r) (hl : KnJ ws l) : KnJ ws r ∧ txJ ws r = txJ ws l := by
  induction h with
  | done _ => exact ⟨hl, rfl⟩
  | step h _ ih =>
    obtain ⟨h1, h2⟩ := repl_words hk h.1 hl
    obtain ⟨h3, h4⟩ := ih h1
    exact ⟨h3, h4.trans h2⟩
theorem JR.fin {ms : List Mg} {l : List Int} {st : List (Nat × Nat)} {r : List Int} (h : JR ms l st r) : NoN ms r := by
  induction h with
  | done h => exact h
  | step _ _ ih => exact ih
theorem JR.len {ms : List Mg} {l : List Int} {st : List (Nat × Nat)} {r : List Int} (h : JR ms l st r) : r.length + st.length = l.length := by
  induction h with
  | done _ => simp
  | step h _ ih =>
    have h1 := mpJ_lt h.1
    rw [repl_length h1] at ih
    rw [List.length_cons]
    omega
end Go.Proofs.YtjbdhakogbolkaaDoor
end
section
/- tesseraref5.Merge: its contract. -/
namespace Go.Proofs.YtjbdhakogbolkaaDoor
open Go.RowKit Go.Sort Go.Joins
set_option linter.unusedVariables false
theorem mergeM_of {ms : List Mg} {l r : Int} {k : Nat} {x : Mg} (hx : ms[k]? = some x) (hp : x.l = l ∧ x.r = r) (hb : ∀ (j : Nat) (y : Mg), j < k → ms[j]? = some y → pairB y l r = false) : mergeM ms l r = some (k, x.i) := by
  unfold mergeM
  rw [rankM_some hx (by unfold pairB; simp [hp.1, hp.2]) hb]
  simp [hx]
theorem mergeM_nil {ms : List Mg} {l r : Int} (hb : ∀ (j : Nat) (y : Mg), ms[j]? = some y → pairB y l r = false) : mergeM ms l r = none := by
  unfold mergeM
  rw [rankM_nil hb]
  rfl
set_option maxRecDepth 100000 in
set_option maxHeartbeats 2000000 in
theorem refMerge_any (aw am a b c : Option Addr) (nw cw cm na ca nb cb nc cc : Nat) (ms : List Mg) (l r : Int) (w : World) (hl : ms.length ≤ 9223372036854775807) (hM : MSP w am ms) :
    Calls Tryd.prog 59 #[.agg #[.slice aw nw cw, .slice am ms.length cm, .slice a na ca, .slice b nb cb, .slice c nc cc], .int .i64 l, .int .i64 r] w fun e w' => e = .returned (mrV (mergeM ms l r)) ∧ Below w.heap.size w w' := by
  have hD := DBox.new w (.slice aw nw cw) (.slice am ms.length cm) (.slice a na ca) (.slice b nb cb) (.slice c nc cc)
  have hb := box_below w (.cells #[.slice aw nw cw, .slice am ms.length cm, .slice a na ca, .slice b nb cb, .slice c nc cc] 30)
  have hM' := hM.below hb
  clear hM
  obtain ⟨R, hR⟩ : ∃ R, R = mergeM ms l r := ⟨_, rfl⟩
  have HR : Hid (R = mergeM ms l r) := hR
  rw [← hR]
  clear hR
  obtain ⟨Y, hY⟩ : ∃ Y, Y = w.alloc (.cells #[.slice aw nw cw, .slice am ms.length cm, .slice a na ca, .slice b nb cb, .slice c nc cc] 30) := ⟨_, rfl⟩
  go_enter Tryd.func59, Tryd.ntmps59
  go_wp2_with fail
  rw [← hY] at hb hD hM' ⊢
  clear hY
  obtain ⟨z, hz⟩ : ∃ z, z = w.heap.size := ⟨_, rfl⟩
  have HZ : Hid (z = w.heap.size) := hz
  rw [← hz] at hD hb ⊢
  clear hz
  go_loopw [9] (fun i wr => ∃ k : Nat, k ≤ ms.length ∧ i = .int .i64 k ∧ (∀ (j : Nat) (y : Mg), j < k → ms[j]? = some y → pairB y l r = false) ∧ Below Y.heap.size Y wr) (fun i _ => ms.length - (intOf i).toNat)
  case atStart => exact ⟨0, Nat.zero_le _, rfl, fun j y h => absurd h (Nat.not_lt_zero _), Below.refl _ _⟩
  case round =>
    obtain ⟨k, hk, rfl, hno, hbr⟩ := hrel
    have x1 := (hD.below hbr hD.lt).c1
    have HNO : Hid (∀ (j : Nat) (y : Mg), j < k → ms[j]? = some y → pairB y l r = false) := hno
    have hB2 := hb.trans (hbr.mono (by rw [HZ.out]; exact hb.size))
    clear hno
    by_cases hlt : k < ms.length
    · obtain ⟨x, hx⟩ : ∃ x, ms[k]? = some x := ⟨_, List.getElem?_eq_getElem (by omega)⟩
      have g0 : decide ((k : Int) < (ms.length : Int)) = true := decide_eq_true (by omega)
      have HX : Hid (ms[k]? = some x) := hx
      obtain ⟨bw, off, rfl, c0, c1, c2⟩ := (hM'.below hbr).at_ hx
      have nomore : ∀ (h : pairB x l r = false), ∀ (j : Nat) (y : Mg), j < k + 1 → ms[j]? = some y → pairB y l r = false := fun h j y hj hy => by
        by_cases hjk : j = k
        · subst hjk
          obtain rfl : y = x := Option.some.inj (hy.symm.trans HX.out)
          exact h
        · exact HNO.out j y (by omega) hy
      have NM : Hid (∀ (h : pairB x l r = false), ∀ (j : Nat) (y : Mg), j < k + 1 → ms[j]? = some y → pairB y l r = false) := nomore
      clear hx hM' nomore
      by_cases hl1 : x.l = l
      · by_cases hr1 : x.r = r
        · have g1 : (x.l == l) = true := by simpa using hl1
          have g2 : (x.r == r) = true := by simpa using hr1
          have HE : Hid (R = some (k, x.i)) := HR.out.trans (mergeM_of HX.out ⟨hl1, hr1⟩ HNO.out)
          clear hl1 hr1 NM
          go_wp2_with fail
          go_quiet (fail)
          go_wp2_with fail
          exact bodyPost_ret (v := .tuple #[.int .i64 (k : Nat), .int .i64 x.i, .bool true]) (by simp [results, Tryd.results59, go_sem]) rfl ⟨by rw [HE.out]; rfl, by rw [← HZ.out]; exact below_drewN hB2 _⟩
        · have g1 : (x.l == l) = true := by simpa using hl1
          have g2 : (x.r == r) = false := by simpa using hr1
          have HP : Hid (pairB x l r = false) := (by unfold pairB; rw [g2, Bool.and_false] : pairB x l r = false)
          clear hl1 hr1
          go_wp2_with fail
          exact ⟨⟨k + 1, by omega, by go_num, NM.out HP.out, hbr⟩, by simp only [intOf]; omega⟩
      · have g1 : (x.l == l) = false := by simpa using hl1
        have HP : Hid (pairB x l r = false) := (by unfold pairB; rw [g1, Bool.false_and] : pairB x l r = false)
        clear hl1
        go_wp2_with fail
        exact ⟨⟨k + 1, by omega, by go_num, NM.out HP.out, hbr⟩, by simp only [intOf]; omega⟩
    · have hkn : k = ms.length := by omega
      have HE : Hid (R = none) := HR.out.trans (mergeM_nil fun j y hy => HNO.out j y (by have := (List.getElem?_eq_some_iff.1 hy).1; omega) hy)
      subst hkn
      clear hM'
      go_wp2_with fail
      exact bodyPost_ret (v := .tuple #[.int .i64 0, .int .i64 0, .bool false]) (by simp [results, Tryd.results59, go_sem]) rfl ⟨by rw [HE.out]; rfl, by rw [← HZ.out]; exact hB2⟩
end Go.Proofs.YtjbdhakogbolkaaDoor
end
section
/- tesserabook.Intact of ints; tesseraref10.Next: their contracts. -/
namespace Go.Proofs.YtjbdhakogbolkaaDoor
open Go.RowKit Go.Joins Go.Sort
set_option linter.unusedVariables false
set_option linter.unusedSimpArgs false
set_option maxRecDepth 100000
set_option maxHeartbeats 800000 in
theorem intactN_any (g : Nat) (a : Option Addr) (cap : Nat) (l : List Int) (m : Int) (w : World) (hlen : l.length ≤ 17592186044416) (hf : OwnB w g (cellsN (fillN l m 80))) (h : CH.INS w a l) :
    Calls Tryd.prog 21 #[.slice (some ⟨g, 0, none⟩) (l.length + 80) (l.length + 80), .slice a l.length cap, .int .i64 m] w fun e w' => e = .returned (.bool true) ∧ Below w.heap.size w w' := by
  have hcell : ∀ k, k < 80 → w.cell? ⟨g, l.length + k, none⟩ = some (.int .i64 m) := fun k hk => by
    rw [hf.cell]; exact cellsN_get _ _ _ (fillN_get l m 80 k hk)
  have hsame := sameN_any (some ⟨g, 0, none⟩) a (l.length + 80) cap l w (by omega) (OwnB.ins (by unfold fillN at hf; exact hf)) h
  obtain ⟨n, hnn⟩ : ∃ n, n = l.length := ⟨_, rfl⟩
  rw [← hnn] at hcell hsame hlen ⊢
  have hgl := hf.lt
  clear hf h hnn
  have hne : (((n : Int) + 80) != ((n : Int) + 80)) = false := by simp
  have hb : 0 ≤ (n : Int) ∧ (n : Int) ≤ (n : Int) + 80 := by omega
  go_enter Tryd.func21, Tryd.ntmps21
  go_wp2_with fail
  refine hsame.mono ?_
  rintro e w1 ⟨rfl, hb1⟩
  clear hsame
  go_wp2_with fail
  go_loopw [7] (fun i wr => wr = w1 ∧ ∃ k : Nat, k ≤ 80 ∧ i = .int .i64 ((n : Int) + k)) (fun i _ => 80 + n - (intOf i).toNat)
  case atStart => exact ⟨rfl, 0, Nat.zero_le _, by simp⟩
  case round =>
    obtain ⟨rfl, k, hk, rfl⟩ := hrel
    by_cases hlt : k < 80
    · have c1 := hcell k hlt
      rw [← hb1.cell hgl] at c1
      have d : decide ((n : Int) + (k : Int) < (n : Int) + 80) = true := decide_eq_true (by omega)
      have hidx : 0 ≤ (n : Int) + (k : Int) ∧ (n : Int) + (k : Int) < (n : Int) + 80 := by omega
      have htn : ((n : Int) + (k : Int)).toNat = n + k := by omega
      have dm : (m != m) = false := by simp
      clear hcell
      go_wp2_with fail
      exact ⟨⟨trivial, k + 1, by omega, by simp; omega⟩, by simp only [intOf]; omega⟩
    · have hk80 : k = 80 := by omega
      subst hk80
      have d : decide ((n : Int) + ((80 : Nat) : Int) < (n : Int) + 80) = false := decide_eq_false (by omega)
      clear hcell
      go_wp2_with fail
      go_ret
      exact ⟨rfl, hb1⟩
theorem nxC_skip {ms : List Mg} {l : List Int} {m : Nat} (h : mpJ ms l m = none) : nxC ms l (m + 1) = nxC ms l m := by
  rw [nxC, h]
theorem nxC_end (ms : List Mg) (l : List Int) : nxC ms l (l.length - 1) = nxC ms l l.length := by
  cases hl : l.length with
  | zero => rfl
  | succ m =>
    rw [Nat.add_sub_cancel]
    refine (nxC_skip ?_).symm
    cases h : mpJ ms l m with
    | none => rfl
    | some x => have := mpJ_lt h; omega
/-- One place more. -/
def nxS (k : Nat) (o : Option (Nat × Int)) (ob : Option (Nat × Nat × Int)) : Option (Nat × Nat × Int) :=
  match o with
  | none => ob
  | some z => match ob with
    | none => some (z.1, k, z.2)
    | some y => if z.1 < y.1 then some (z.1, k, z.2) else some y
theorem nxC_s (ms : List Mg) (l : List Int) (k : Nat) : nxC ms l (k + 1) = nxS k (mpJ ms l k) (nxC ms l k) := by
  rw [nxC]
  unfold nxS
  cases mpJ ms l k <;> rfl
/-- What the document's own Next answers. -/
def nbF (o : Option (Nat × Nat × Int)) : Int × Int × Int := match o with | none => (-1, 0, 0) | some (r, a, i) => ((r : Int), (a : Int), i)
set_option maxHeartbeats 4000000 in
theorem refNext_any (aw am a b c : Option Addr) (nw cw cm na ca nb cb nc cc : Nat) (ms : List Mg) (la : Option Addr) (lc : Nat) (l : List Int) (w : World) (hl : ms.length ≤ 9223372036854775807) (hll : l.length ≤ 1099511627776) (hM : MSP w am ms) (hi : CH.INS w la l) :
    Calls Tryd.prog 39 #[.agg #[.slice aw nw cw, .slice am ms.length cm, .slice a na ca, .slice b nb cb, .slice c nc cc], .slice la l.length lc] w fun e w' => e = .returned (.tuple #[.agg #[.int .i64 (nbF (nxC ms l l.length)).1, .int .i64 (nbF (nxC ms l l.length)).2.1], .int .i64 (nbF (nxC ms l l.length)).2.2, .bool (nxC ms l l.length).isSome]) ∧ Below w.heap.size w w' := by
  rw [← nxC_end]
  have hD := DBox.new w (.slice aw nw cw) (.slice am ms.length cm) (.slice a na ca) (.slice b nb cb) (.slice c nc cc)
  have hb0 := box_below w (.cells #[.slice aw nw cw, .slice am ms.length cm, .slice a na ca, .slice b nb cb, .slice c nc cc] 30)
  obtain ⟨w1, hw1⟩ : ∃ w1, w1 = w.alloc (.cells #[.slice aw nw cw, .slice am ms.length cm, .slice a na ca, .slice b nb cb, .slice c nc cc] 30) := ⟨_, rfl⟩
  rw [← hw1] at hD hb0
  have hs1 : w1.heap.size = w.heap.size + 1 := by rw [hw1]; simp
  obtain ⟨w2, hw2⟩ : ∃ w2, w2 = (w1.alloc (.cells #[.int .i64 0, .int .i64 0] 55)).alloc (.cells #[.int .i64 (-1), .int .i64 0] 55) := ⟨_, rfl⟩
  have hb2 : Below w1.heap.size w1 w2 := by rw [hw2]; exact ((Below.refl _ w1).alloc (Nat.le_refl _) _).alloc (by simp) _
  obtain ⟨n, hnn⟩ : ∃ n, n = l.length := ⟨_, rfl⟩
  have HN : Hid (n = l.length) := hnn
  rw [← hnn] at hll ⊢
  obtain ⟨z, hz⟩ : ∃ z, z = w.heap.size := ⟨_, rfl⟩
  have HZ : Hid (z = w.heap.size) := hz
  have hR2 : w2.heap[z + 1]? = some (.cells #[.int .i64 0, .int .i64 0] 55 (0, 0)) := by
    rw [hw2, Below.heap_alloc _ _ _ (by simp; omega)]
    have := heap_alloc_new w1 (.cells #[.int .i64 0, .int .i64 0] 55)
    rw [hs1, ← hz] at this
    exact this
  have hT2 : w2.heap[z + 2]? = some (.cells #[.int .i64 (-1), .int .i64 0] 55 (0, 0)) := by
    have := heap_alloc_new (w1.alloc (.cells #[.int .i64 0, .int .i64 0] 55)) (.cells #[.int .i64 (-1), .int .i64 0] 55)
    rw [World.size_alloc, hs1, ← hz] at this
    rw [hw2]; exact this
  have hs2 : w2.heap.size = z + 3 := by rw [hw2]; simp; omega
  have x0 := hD.c0
  have x1 := hD.c1
  have x2 := hD.c2
  have x3 := hD.c3
  have x4 := hD.c4
  clear hnn
  obtain ⟨o, ho⟩ : ∃ o, o = nxC ms l (n - 1) := ⟨_, rfl⟩
  obtain ⟨n1, hn1⟩ : ∃ n1, n1 = (nbF o).1 := ⟨_, rfl⟩
  obtain ⟨n2, hn2⟩ : ∃ n2, n2 = (nbF o).2.1 := ⟨_, rfl⟩
  obtain ⟨n3, hn3⟩ : ∃ n3, n3 = (nbF o).2.2 := ⟨_, rfl⟩
  obtain ⟨f, hf⟩ : ∃ f, f = o.isSome := ⟨_, rfl⟩
  have HOO : Hid (o = nxC ms l (n - 1)) := ho
  have HN1 : Hid (n1 = (nbF o).1 ∧ n2 = (nbF o).2.1 ∧ n3 = (nbF o).2.2 ∧ f = o.isSome) := ⟨hn1, hn2, hn3, hf⟩
  rw [← ho, ← hn1, ← hn2, ← hn3, ← hf]
  clear ho hn1 hn2 hn3 hf
  go_enter Tryd.func39, Tryd.ntmps39
  go_upto_region 2 with fail
  rw [← hw1, ← hw2, ← hz]
  have hD2 := hD.below hb2
  have hB2 := hb0.trans (hb2.mono hb0.size)
  rw [← hz] at hD2 hB2
  have hcells : ∀ j v, w1.cell? ⟨w.heap.size, j, none⟩ = some v → w2.cell? ⟨z, j, none⟩ = some v := fun j v h => by
    rw [hz]
    exact (hb2.cell (World.block_lt_of_cell? w1 _ h)).trans h
  have y0 := hcells _ _ x0
  have y1 := hcells _ _ x1
  have y2 := hcells _ _ x2
  have y3 := hcells _ _ x3
  have y4 := hcells _ _ x4
  clear hw1 hw2 hz x0 x1 x2 x3 x4 hD hb0 hb2 hs1 hcells hD2
  go_wp2_with fail
  go_loopw [8, 9] (fun v8 v9 wr => ∃ k : Nat, k ≤ n - 1 ∧ v8 = .int .i64 (nbF (nxC ms l k)).2.2 ∧ v9 = .int .i64 (k : Nat) ∧ wr.heap[z + 1]? = some (.cells #[.int .i64 0, .int .i64 0] 55 (0, 0)) ∧ wr.heap[z + 2]? = some (.cells #[.int .i64 (nbF (nxC ms l k)).1, .int .i64 (nbF (nxC ms l k)).2.1] 55 (0, 0)) ∧ Below (z + 1) w2 wr) (fun _ v9 _ => n - 1 - (intOf v9).toNat)
  case atStart => exact ⟨0, Nat.zero_le _, rfl, rfl, hR2, hT2, Below.refl _ _⟩
  case round =>
    clear hR2 hT2
    obtain ⟨k, hk, rfl, rfl, hR, hT, hBr⟩ := hrel
    have hzs := hBr.size
    have hcc : ∀ j v, w2.cell? ⟨z, j, none⟩ = some v → wr.cell? ⟨z, j, none⟩ = some v := fun j v h => (hBr.cell (p := ⟨z, j, none⟩) (by show z < z + 1; omega)).trans h
    have u0 := hcc _ _ y0
    have u1 := hcc _ _ y1
    have u2 := hcc _ _ y2
    have u3 := hcc _ _ y3
    have u4 := hcc _ _ y4
    have hBz : Below w.heap.size w wr := by
      rw [← HZ.out]
      exact hB2.trans (hBr.mono (by omega))
    have hnum : 0 ≤ (nbF (nxC ms l k)).1 ∨ (nbF (nxC ms l k)).1 = -1 := by
      cases nxC ms l k with
      | none => right; rfl
      | some y => left; show 0 ≤ ((y.1 : Nat) : Int); omega
    by_cases hlt : k + 1 < n
    · have d : decide ((k : Int) + 1 < (n : Int)) = true := decide_eq_true (by omega)
      obtain ⟨x, hx⟩ : ∃ x, l[k]? = some x := ⟨_, List.getElem?_eq_getElem (by rw [← HN.out]; omega)⟩
      obtain ⟨y, hy⟩ : ∃ y, l[k + 1]? = some y := ⟨_, List.getElem?_eq_getElem (by rw [← HN.out]; omega)⟩
      obtain ⟨lb, off, rfl, c0⟩ := INS.at' (INS.below' hi hBz) hx
      obtain ⟨_, _, e0, c1⟩ := INS.at' (INS.below' hi hBz) hy
      cases e0
      have hmp : mpJ ms l k = mergeM ms x y := by unfold mpJ; rw [hx, hy]; rfl
      have HMm := fun d os => refMerge_any aw am a b c nw cw cm na ca nb cb nc cc ms x y (grow (redrawn wr d) os) hl ((hM.below hBz).below (below_regrown wr d os))
      have bi : 0 ≤ (k : Int) ∧ (k : Int) < (n : Int) := by omega
      have bj : 0 ≤ (k : Int) + 1 ∧ (k : Int) + 1 < (n : Int) := by omega
      have htn : ((k : Int) + 1).toNat = k + 1 := by omega
      obtain ⟨o, ho⟩ : ∃ o, o = mergeM ms x y := ⟨_, rfl⟩
      rw [← ho] at HMm hmp
      have k0 := cell_regrown u0
      have k1 := cell_regrown u1
      have k2 := cell_regrown u2
      have k3 := cell_regrown u3
      have k4 := cell_regrown u4
      have k5 := cell_regrown c0
      have k6 := cell_regrown c1
      obtain ⟨ob, hob⟩ : ∃ ob, ob = nxC ms l k := ⟨_, rfl⟩
      have hnx : nxC ms l (k + 1) = nxS k o ob := by rw [nxC_s, hmp, hob]
      rw [← hob] at hT hnum ⊢
      have HNX : Hid (nxC ms l (k + 1) = nxS k o ob) := hnx
      have HRr : Hid (wr.heap[z + 1]? = some (.cells #[.int .i64 0, .int .i64 0] 55 (0, 0))) := hR
      have HTr : Hid (wr.heap[z + 2]? = some (.cells #[.int .i64 (nbF ob).1, .int .i64 (nbF ob).2.1] 55 (0, 0))) := hT
      have hzl : z + 2 < wr.heap.size := (Array.getElem?_eq_some_iff.1 hT).1
      clear hx hy hmp ho hob hnx hM hi hcc u0 u1 u2 u3 u4 c0 c1 y0 y1 y2 y3 y4 hR hT
      go_upto_region 6 with fail
      cases o with
      | none =>
        rw [show mrV none = .tuple #[.int .i64 0, .int .i64 0, .bool false] from rfl] at HMm
        refine wp_region_quiet_below (by kernel_rfl) (by kernel_rfl) ?_
        repeat (go_big_quiet_step ((go_at_call 59; exact Calls.regrown_of (HMm _ _))))
        refine wpQuiet_nil ?_
        intro W5 hw'
        have hb5 : Below wr.heap.size wr W5 := by
          obtain ⟨⟨dq, osq⟩, rfl⟩ := hw'
          exact below_regrown _ _ _
        clear hw' HMm k0 k1 k2 k3 k4 k5 k6
        go_wp2_with fail
        exact ⟨⟨k + 1, by omega, by rw [HNX.out]; rfl, by simp, (hb5.block _ (by omega)).trans HRr.out, by rw [HNX.out]; exact (hb5.block _ (by omega)).trans HTr.out, hBr.trans (hb5.mono (by omega))⟩, by simp only [intOf]; omega⟩
      | some q =>
        obtain ⟨rk, id⟩ := q
        rw [show mrV (some (rk, id)) = .tuple #[.int .i64 (rk : Nat), .int .i64 id, .bool true] from rfl] at HMm
        refine wp_region_quiet_below (by kernel_rfl) (by kernel_rfl) ?_
        repeat (go_big_quiet_step ((go_at_call 59; exact Calls.regrown_of (HMm _ _))))
        refine wpQuiet_nil ?_
        intro W5 hw'
        have hb5 : Below wr.heap.size wr W5 := by
          obtain ⟨⟨dq, osq⟩, rfl⟩ := hw'
          exact below_regrown _ _ _
        clear hw' HMm k0 k1 k2 k3 k4 k5 k6
        have hR5 := (hb5.block _ (by omega)).trans HRr.out
        have hT5 := (hb5.block _ hzl).trans HTr.out
        have hB5 := hBr.trans (hb5.mono (by omega))
        have t0 := cell_of_block hT5 0
        have t1 := cell_of_block hT5 1
        have tf := fun j => unfrozen_of_block hT5 j
        simp only [List.getElem?_toArray, List.getElem?_cons_zero, List.getElem?_cons_succ] at t0 t1
        have HR5 : Hid (W5.heap[z + 1]? = some (.cells #[.int .i64 0, .int .i64 0] 55 (0, 0))) := hR5
        have HT5 : Hid (W5.heap[z + 2]? = some (.cells #[.int .i64 (nbF ob).1, .int .i64 (nbF ob).2.1] 55 (0, 0))) := hT5
        clear hR5 hT5 hb5
        have hset := block_setCell (i := 1) (block_setCell (i := 0) HT5.out (.int .i64 (rk : Nat))) (.int .i64 (k : Nat))
        have hnx : nxC ms l (k + 1) = some (rk, k, id) → (W5.setCell ⟨z + 2, 0, none⟩ (.int .i64 (rk : Nat))).setCell ⟨z + 2, 1, none⟩ (.int .i64 (k : Nat)) = (W5.setCell ⟨z + 2, 0, none⟩ (.int .i64 (rk : Nat))).setCell ⟨z + 2, 1, none⟩ (.int .i64 (k : Nat)) := fun _ => rfl
        have HSET : Hid (((W5.setCell ⟨z + 2, 0, none⟩ (.int .i64 (rk : Nat))).setCell ⟨z + 2, 1, none⟩ (.int .i64 (k : Nat))).heap[z + 2]? = some (.cells #[.int .i64 (rk : Nat), .int .i64 (k : Nat)] 55 (0, 0))) := hset
        have HRS : Hid (((W5.setCell ⟨z + 2, 0, none⟩ (.int .i64 (rk : Nat))).setCell ⟨z + 2, 1, none⟩ (.int .i64 (k : Nat))).heap[z + 1]? = some (.cells #[.int .i64 0, .int .i64 0] 55 (0, 0))) := by
          show _ = _
          rw [Below.heap_setCell _ ⟨z + 2, 1, none⟩ _ _ (by show z + 1 ≠ z + 2; omega), Below.heap_setCell _ ⟨z + 2, 0, none⟩ _ _ (by show z + 1 ≠ z + 2; omega)]
          exact HR5.out
        clear hset hnx
        cases ob with
        | none =>
          have dl : decide ((-1 : Int) < 0) = true := rfl
          have hb1 : (nbF none).1 = -1 := rfl
          rw [hb1] at t0
          go_wp2_with fail
          exact ⟨⟨k + 1, by omega, by rw [HNX.out]; rfl, by simp, HRS.out, by rw [HNX.out]; exact HSET.out, (hB5.setCell (p := ⟨z + 2, 0, none⟩) (by show z + 1 ≤ z + 2; omega) _).setCell (p := ⟨z + 2, 1, none⟩) (by show z + 1 ≤ z + 2; omega) _⟩, by simp only [intOf]; omega⟩
        | some p0 =>
          obtain ⟨r0, a0, i0⟩ := p0
          have hb1 : (nbF (some (r0, a0, i0))).1 = (r0 : Int) := rfl
          rw [hb1] at t0
          have dl : decide ((r0 : Int) < 0) = false := decide_eq_false (by omega)
          by_cases hr : rk < r0
          · have dr : decide ((rk : Int) < (r0 : Int)) = true := decide_eq_true (by omega)
            have dr2 : decide (rk < r0) = true := decide_eq_true hr
            have HE : Hid (nxC ms l (k + 1) = some (rk, k, id)) := by show _ = _; rw [HNX.out]; simp [nxS, hr]
            clear hr
            go_wp2_with fail
            exact ⟨⟨k + 1, by omega, by rw [HE.out]; rfl, by simp, HRS.out, by rw [HE.out]; exact HSET.out, (hB5.setCell (p := ⟨z + 2, 0, none⟩) (by show z + 1 ≤ z + 2; omega) _).setCell (p := ⟨z + 2, 1, none⟩) (by show z + 1 ≤ z + 2; omega) _⟩, by simp only [intOf]; omega⟩
          · have dr : decide ((rk : Int) < (r0 : Int)) = false := decide_eq_false (by omega)
            have dr2 : decide (rk < r0) = false := decide_eq_false hr
            have HE : Hid (nxC ms l (k + 1) = some (r0, a0, i0)) := by show _ = _; rw [HNX.out]; simp [nxS, hr]
            clear hr
            go_wp2_with fail
            exact ⟨⟨k + 1, by omega, by rw [HE.out], by simp, HR5.out, by rw [HE.out]; exact HT5.out, hB5⟩, by simp only [intOf]; omega⟩
    · have hke : k = n - 1 := by omega
      have d : decide ((k : Int) + 1 < (n : Int)) = false := decide_eq_false (by omega)
      have t0 := cell_of_block hT 0
      have t1 := cell_of_block hT 1
      simp only [List.getElem?_toArray, List.getElem?_cons_zero, List.getElem?_cons_succ] at t0 t1
      have hzl : z + 2 < wr.heap.size := (Array.getElem?_eq_some_iff.1 hT).1
      have hok : nxC ms l k = o := by rw [hke]; exact HOO.out.symm
      obtain ⟨hn1, hn2, hn3, hf⟩ := HN1.out
      rw [hok] at t0 t1 hnum ⊢
      have hge : decide (0 ≤ (nbF o).1) = o.isSome := by
        cases o with
        | none => rfl
        | some y => show decide (0 ≤ ((y.1 : Nat) : Int)) = true; exact decide_eq_true (by omega)
      rw [← hn1, ← hf] at hge
      rw [← hn1] at t0
      rw [← hn2] at t1
      rw [← hn3]
      clear hke hok hT hM hi hcc u0 u1 u2 u3 u4 y0 y1 y2 y3 y4 hn1 hn2 hn3 hf hnum
      have r0 := cell_of_block hR 0
      have r1 := cell_of_block hR 1
      have rf := fun j => unfrozen_of_block hR j
      simp only [List.getElem?_toArray, List.getElem?_cons_zero, List.getElem?_cons_succ] at r0 r1
      have B5 : Below z w wr := by
        have := HZ.out
        rw [← this] at hBz
        exact hBz
      go_upto_region 10 with fail
      refine wp_region_heldtail 7 (fun w' : World => w'.cell? ⟨z + 2, 0, none⟩ = some (.int .i64 n1) ∧ w'.cell? ⟨z + 2, 1, none⟩ = some (.int .i64 n2)) (by kernel_rfl) (by kernel_rfl) ?_
      refine HL_take (i := 0) (.agg #[.int .i64 n1, .int .i64 n2]) (by kernel_rfl) rfl (by omega) (by kernel_rfl) (by kernel_rfl) (by kernel_rfl) (fun _ _ _ h => h) (.inl ⟨by kernel_rfl, fun w' hw' => by obtain ⟨q1, q2⟩ := hw'; go_simp⟩) ⟨t0, t1⟩ ?_
      simp only [Act.put, List.getElem_toArray, List.getElem_cons_zero, List.getElem_cons_succ, List.setIfInBounds_toArray, List.set_cons_zero, List.set_cons_succ]
      refine HL_take (i := 1) (.int .i64 n3) (by kernel_rfl) rfl (by omega) (by kernel_rfl) (by kernel_rfl) (by kernel_rfl) (fun _ _ _ h => h) (.inl ⟨by kernel_rfl, fun w' hw' => by obtain ⟨q1, q2⟩ := hw'; go_simp⟩) ⟨t0, t1⟩ ?_
      simp only [Act.put, List.getElem_toArray, List.getElem_cons_zero, List.getElem_cons_succ, List.setIfInBounds_toArray, List.set_cons_zero, List.set_cons_succ]
      refine HL_take (i := 2) (.pointer (some ⟨z + 2, 0, none⟩)) (by kernel_rfl) rfl (by omega) (by kernel_rfl) (by kernel_rfl) (by kernel_rfl) (fun _ _ _ h => h) (.inl ⟨by kernel_rfl, fun w' hw' => by obtain ⟨q1, q2⟩ := hw'; go_simp⟩) ⟨t0, t1⟩ ?_
      simp only [Act.put, List.getElem_toArray, List.getElem_cons_zero, List.getElem_cons_succ, List.setIfInBounds_toArray, List.set_cons_zero, List.set_cons_succ]
      refine HL_take (i := 3) (.int .i64 n1) (by kernel_rfl) rfl (by omega) (by kernel_rfl) (by kernel_rfl) (by kernel_rfl) (fun _ _ _ h => h) (.inl ⟨by kernel_rfl, fun w' hw' => by obtain ⟨q1, q2⟩ := hw'; go_simp⟩) ⟨t0, t1⟩ ?_
      simp only [Act.put, List.getElem_toArray, List.getElem_cons_zero, List.getElem_cons_succ, List.setIfInBounds_toArray, List.set_cons_zero, List.set_cons_succ]
      refine HL_take (i := 4) (.bool f) (by kernel_rfl) rfl (by omega) (by kernel_rfl) (by kernel_rfl) (by kernel_rfl) (fun _ _ _ h => h) (.inl ⟨by kernel_rfl, fun w' hw' => by obtain ⟨q1, q2⟩ := hw'; go_simp⟩) ⟨t0, t1⟩ ?_
      simp only [Act.put, List.getElem_toArray, List.getElem_cons_zero, List.getElem_cons_succ, List.setIfInBounds_toArray, List.set_cons_zero, List.set_cons_succ]
      refine HL_one (i := 5) rfl (by omega) (by kernel_rfl) rfl ?_
      unfold Oper.wp
      simp only [List.getElem_toArray, List.getElem_cons_zero, List.getElem_cons_succ]
      go_simp
      refine HL_take (i := 6) (.int .i64 n3) (by kernel_rfl) rfl (by omega) (by kernel_rfl) (by kernel_rfl) (by kernel_rfl) (fun _ _ _ h => h) (.inl ⟨by kernel_rfl, fun w' hw' => by obtain ⟨q1, q2⟩ := hw'; go_simp⟩) (by refine ⟨?_, ?_⟩ <;> go_simp) ?_
      simp only [Act.put, List.getElem_toArray, List.getElem_cons_zero, List.getElem_cons_succ, List.setIfInBounds_toArray, List.set_cons_zero, List.set_cons_succ]
      refine ⟨by kernel_rfl, ?_⟩
      simp only [List.drop_succ_cons, List.drop_zero]
      have B6 : Below z w ((wr.drew.setCell ⟨z + 1, 0, none⟩ (.int .i64 n1)).setCell ⟨z + 1, 1, none⟩ (.int .i64 n2)) := ((B5.drew).setCell (p := ⟨z + 1, 0, none⟩) (by show z ≤ z + 1; omega) _).setCell (p := ⟨z + 1, 1, none⟩) (by show z ≤ z + 1; omega) _
      go_wp2_with fail
      refine bodyPost_ret (v := .tuple #[.agg #[.int .i64 n1, .int .i64 n2], .int .i64 n3, .bool f]) (by simp [results, Tryd.results39, go_sem, r0, r1]) rfl ⟨rfl, ?_⟩
      rw [← HZ.out]
      exact B6
end Go.Proofs.YtjbdhakogbolkaaDoor
end
