/- UtfItems: the walk. -/
import Derived.Test.YthlcdaopldnocaaUSame
import Derived.Test.YthlcdaopldnocaaURef3
import Derived.Test.YthlcdaopldnocaaUWithin
import Derived.Test.YthlcdaopldnocaaURegion
namespace Go.Proofs.Ythlcdaopldnocaa
open Go.RowKit Go.Shelf Go.Sort
open Go.Joins
attribute [local go_sem] Oper.semAt_some
/-- The slice that begins at a holds the items l, in a block from lo to hi. -/
def ITB (lo hi : Nat) (w : World) (a : Option Addr) (l : List It) : Prop := l = [] ∨ ∃ g, a = some ⟨g, 0, none⟩ ∧ lo ≤ g ∧ g < hi ∧ ∀ i x, l[i]? = some x → ItAt w g i x
theorem ITB.its {lo hi : Nat} {w : World} {a : Option Addr} {l : List It} (h : ITB lo hi w a l) : ITS w a l := by
  rcases h with h | ⟨g, h1, _, _, h2⟩
  · exact .inl h
  · exact .inr ⟨g, h1, h2⟩
theorem ITB.below {lo hi : Nat} {W W' : World} {a : Option Addr} {l : List It} (h : ITB lo hi W a l) (hb : Below W.heap.size W W') : ITB lo hi W' a l := by
  rcases h with h | ⟨g, h1, h2, h3, h4⟩
  · exact .inl h
  · exact .inr ⟨g, h1, h2, h3, fun i x hx => (h4 i x hx).below hb⟩
theorem ItAt.other {W : World} {g i : Nat} {x : It} (h : ItAt W g i x) {b o : Nat} (v : Value) (hb : b ≠ g) : ItAt (W.setCell ⟨b, o, none⟩ v) g i x := by
  have e : (W.setCell ⟨b, o, none⟩ v).heap[g]? = W.heap[g]? := Below.heap_setCell _ _ _ g (fun e => hb e.symm)
  obtain ⟨h0, h1, h2, h3⟩ := h
  exact ⟨(World.cell?_of_block (w := W) (a := ⟨g, _, none⟩) e).trans h0, (World.cell?_of_block (w := W) (a := ⟨g, _, none⟩) e).trans h1, (World.cell?_of_block (w := W) (a := ⟨g, _, none⟩) e).trans h2, (World.cell?_of_block (w := W) (a := ⟨g, _, none⟩) e).trans h3⟩
theorem ITB.other {lo hi : Nat} {W : World} {a : Option Addr} {l : List It} (h : ITB lo hi W a l) {b o : Nat} (v : Value) (hb : b < lo ∨ hi ≤ b) : ITB lo hi (W.setCell ⟨b, o, none⟩ v) a l := by
  rcases h with h | ⟨g, h1, h2, h3, h4⟩
  · exact .inl h
  · exact .inr ⟨g, h1, h2, h3, fun i x hx => (h4 i x hx).other v (by omega)⟩
theorem itb_own {β : Type} (lo hi : Nat) (a : Option Addr) (l : List It) : Go.Own (fun (_ : β) W => ITB lo hi W a l) := fun _ A B row hs hg hr => by
  rcases hs with h | ⟨g, h1, h2, h3, h4⟩
  · exact .inl h
  · refine .inr ⟨g, h1, h2, h3, fun i x hx => ?_⟩
    obtain ⟨c0, c1, c2, c3⟩ := h4 i x hx
    exact ⟨cell_kept c0 hg hr, cell_kept c1 hg hr, cell_kept c2 hg hr, cell_kept c3 hg hr⟩
theorem OwnI.itb {T : TypeId} {w : World} {base : Nat} {v : Value} {l : List It} (h : OwnI T w base v l) : ∃ a cap, v = .slice a l.length cap ∧ ITB base w.heap.size w a l ∧ l.length ≤ cap := by
  by_cases hl : l = []
  · have h0 := h.2.2 hl
    subst hl
    exact ⟨none, 0, h0, .inl rfl, Nat.le_refl _⟩
  · obtain ⟨g, cap, hv, hb, hg, hc, _, hi⟩ := h.form hl
    exact ⟨_, cap, hv, .inr ⟨g, rfl, hb, hg, hi⟩, hc⟩
theorem boxed_below {W W' : World} {B B' : Nat} {t : TypeId} {v : Value} (h : Boxed W B t v) (hb : Below B' W W') (hB : B < B') : Boxed W' B t v := (hb.block B hB).trans h
theorem KpJ.setBox {W : World} {B Bs : Nat} {t : TypeId} {v : Value} (v' : Value) (hb : Boxed W B t v) (ht : t ≠ 30) (hne : Bs ≠ B) : KpJ Bs W (W.setCell ⟨B, 0, none⟩ v') :=
  ⟨by simp, Below.heap_setCell _ _ _ Bs hne, fun k c hk _ => Below.heap_setCell _ _ _ k (fun e => by
    have e' : k = B := e
    subst e'
    have := (show W.heap[k]? = _ from hb).symm.trans hk
    injection this with this
    injection this with _ e2 _
    exact ht e2)⟩
theorem keepsOthers_below {W W' : World} (h : Below W.heap.size W W') : KeepsOthers W W' := ⟨h.size, fun k _ hk _ => (h.block k (Array.getElem?_eq_some_iff.1 hk).1).trans hk⟩
theorem keepsOthers_drewN (W : World) (n : Nat) : KeepsOthers W (W.drewN n) := ⟨Nat.le_refl _, fun _ _ h _ => h⟩
set_option maxRecDepth 100000 in
set_option maxHeartbeats 4000000 in
theorem utfitems_walk (s : ByteArray) (stop : Int) (hs : s.size ≤ 1048576) (w : World) :
    Calls Try.prog 4 #[.string s, .int .i64 stop] w fun e w' => e = .returned (.bool true) ∧ Below w.heap.size w w' := by
  refine (callsIn_wide (n := 3)).1 ?_
  have h1 : 1 ≤ 3 := by omega
  have hN := items_length (tl s) 0
  rw [tl_len] at hN
  have HR := fun wx => refitems_any s (by omega) wx
  have HL := fun wx => list_any s (by omega) wx
  have HW := fun wx => within_any stop 20 (by omega) wx
  have HS := fun Bs wx hc => items_stops 2 (by omega) Bs s (by omega) wx hc
  generalize items 0 (tl s) = L at *
  refine callsIn_of_wp_marks Try.func4 rfl trivial ?_ rfl
  simp only [Try.ntmps4, List.size_toArray, List.length_cons, List.length_nil, Nat.reduceAdd, Nat.reduceSub, Array.replicate_succ, Array.replicate_zero, List.push_toArray, List.append_toArray, List.nil_append, List.cons_append]
  gi_wp2_with fail
  refine ⟨trivial, (callsIn_wide.2 (HR _)).mono ?_⟩
  rintro e w1 ⟨v1, rfl, ho1, hb1⟩
  obtain ⟨a1, c1, rfl, i1, l1⟩ := ho1.itb
  gi_wp2_with fail
  refine ⟨trivial, (callsIn_wide.2 (HL _)).mono ?_⟩
  rintro e w2 ⟨v2, rfl, ho2, hb2⟩
  obtain ⟨a2, c2, rfl, i2, l2⟩ := ho2.its
  have bSt1 := boxed_below ((Boxed.new w 3 (.int .i64 stop)).alloc (.cells #[.bool false] 4)) hb1 (by simp <;> omega)
  have bR1 := boxed_below (Boxed.new (w.alloc (.cells #[.int .i64 stop] 3)) 4 (.bool false)) hb1 (by simp <;> omega)
  have hz1 := hb1.size
  have bW2 := boxed_below (Boxed.new w1 33 (.slice a1 L.length c1)) hb2 (by simp <;> omega)
  have bSt2 := boxed_below (bSt1.alloc (.cells #[.slice a1 L.length c1] 33)) hb2 (by simp at hz1; simp; omega)
  have bR2 := boxed_below (bR1.alloc (.cells #[.slice a1 L.length c1] 33)) hb2 (by simp at hz1; simp; omega)
  have i12 := (i1.below ((Below.refl w1.heap.size w1).alloc (Nat.le_refl _) _)).below hb2
  have hz2 := hb2.size
  have hB2 : Below w.heap.size w w2 := ((((((Below.refl w.heap.size w).alloc (Nat.le_refl _) _).alloc (by simp) _).trans (hb1.mono (by simp; omega))).alloc (by simp at hz1; omega) _).trans (hb2.mono (by simp at hz1; simp; omega)))
  simp only [World.size_alloc] at hz1 hz2 bSt1 bR1 bSt2 bR2 i12
  clear HR HL ho1 ho2 i1 bSt1 bR1
  have cW := bW2.cell
  gi_wp2_with fail
  refine ⟨trivial, (callsIn_wide.2 (same_eq a2 a1 c2 c1 L _ (by omega) i2 i12.its)).mono ?_⟩
  rintro e w3 ⟨rfl, hb3⟩
  have bSt3 := boxed_below bSt2 hb3 (by omega)
  have bR3 := boxed_below bR2 hb3 (by omega)
  have bW3 := boxed_below bW2 hb3 (by omega)
  have i13 := i12.below hb3
  have hz3 := hb3.size
  have hB3 : Below w.heap.size w w3 := hB2.trans (hb3.mono (by omega))
  clear bSt2 bR2 bW2 i12 i2 cW hb1 hb2 hB2
  have cS := bSt3.cell
  have fS := bSt3.frozen
  gi_wp2_with fail
  refine ⟨trivial, (callsIn_wide.2 (HW _)).mono ?_⟩
  rintro e w4 ⟨k0, hk0, rfl, rfl⟩
  gi_wp2_with fail
  refine ⟨trivial, (items_in 2 s _).mono ?_⟩
  rintro e w5 ⟨rfl, rfl⟩
  gi_wp2_with fail
  have sz0 : (((w4.setCell ⟨w.heap.size, 0, none⟩ (.int .i64 (k0 : Nat))).alloc (.cells #[.int .i64 0] 3)).alloc (.cells #[.string s] 9)).heap.size = w4.heap.size + 2 := by simp
  have bSt4 := ((bSt3.set (.int .i64 (k0 : Nat))).alloc (.cells #[.int .i64 0] 3)).alloc (.cells #[.string s] 9)
  have bR4 := ((bR3.other (B' := w.heap.size) (by omega) (.int .i64 (k0 : Nat))).alloc (.cells #[.int .i64 0] 3)).alloc (.cells #[.string s] 9)
  have bW4 := ((bW3.other (B' := w.heap.size) (by omega) (.int .i64 (k0 : Nat))).alloc (.cells #[.int .i64 0] 3)).alloc (.cells #[.string s] 9)
  have bN4 := (Boxed.new (w4.setCell ⟨w.heap.size, 0, none⟩ (.int .i64 (k0 : Nat))) 3 (.int .i64 0)).alloc (.cells #[.string s] 9)
  have bX4 := Boxed.new ((w4.setCell ⟨w.heap.size, 0, none⟩ (.int .i64 (k0 : Nat))).alloc (.cells #[.int .i64 0] 3)) 9 (.string s)
  have hB4 : Below w.heap.size w (((w4.setCell ⟨w.heap.size, 0, none⟩ (.int .i64 (k0 : Nat))).alloc (.cells #[.int .i64 0] 3)).alloc (.cells #[.string s] 9)) := ((hB3.setCell (p := ⟨w.heap.size, 0, none⟩) (Nat.le_refl _) _).alloc (by simp; omega) _).alloc (by simp; omega) _
  have i14 : ITB (w.heap.size + 1 + 1) w1.heap.size (((w4.setCell ⟨w.heap.size, 0, none⟩ (.int .i64 (k0 : Nat))).alloc (.cells #[.int .i64 0] 3)).alloc (.cells #[.string s] 9)) a1 L :=
    ((i13.other _ (.inl (by omega))).below ((Below.refl _ _).alloc (Nat.le_refl _) _)).below ((Below.refl _ _).alloc (Nat.le_refl _) _)
  simp only [World.size_alloc, World.size_setCell] at bN4 bX4
  obtain ⟨W0, hW0⟩ : ∃ W0, ((w4.setCell ⟨w.heap.size, 0, none⟩ (.int .i64 (k0 : Nat))).alloc (.cells #[.int .i64 0] 3)).alloc (.cells #[.string s] 9) = W0 := ⟨_, rfl⟩
  rw [hW0] at bSt4 bR4 bW4 bN4 bX4 hB4 i14 sz0 ⊢
  clear hW0 bSt3 bR3 bW3 i13 hB3 hb3 cS fS
  refine wpIn_rangeFunc_ownH rfl h1 (gf := 30) (lb := #[.pointer (some ⟨w4.heap.size + 1, 0, none⟩)]) rfl trivial (enters_of Try.func30 (by kernel_rfl) rfl)
    (HS (w4.heap.size + 1) W0 bX4.cell) KpJ.trans (KpJ.putObj (by omega)) (Below.refl _ _) (fun _ => rfl)
    (fun pre W => ((((((Boxed W w.heap.size 3 (.int .i64 (k0 : Nat)) ∧ Boxed W (w.heap.size + 1) 4 (.bool false)) ∧ Boxed W w1.heap.size 33 (.slice a1 L.length c1)) ∧ Boxed W w4.heap.size 3 (.int .i64 (pre.length : Nat))) ∧ ITB (w.heap.size + 1 + 1) w1.heap.size W a1 L) ∧ Boxed W (w4.heap.size + 1) 9 (.string s)) ∧ Below w.heap.size w W))
    (fun c pre W => (c = .ret ∧ (pre <+: L → Boxed W (w.heap.size + 1) 4 (.bool true))) ∧ Below w.heap.size w W)
    ?own
    ?ownx
    ⟨⟨⟨⟨⟨⟨bSt4, bR4⟩, bW4⟩, bN4⟩, i14⟩, bX4⟩, hB4⟩
    (fun x a' W => ∃ Bx, w4.heap.size + 1 < Bx ∧ W.heap[Bx]? = some (.cells (cellI x).toArray 30 (0, 0)) ∧ a' = { tmps := #[.string s, .int .i64 stop, undef, .pointer (some ⟨w.heap.size, 0, none⟩), .pointer (some ⟨w.heap.size + 1, 0, none⟩), .pointer (some ⟨w1.heap.size, 0, none⟩), .slice a2 L.length c2, .bool true, .pointer (some ⟨w4.heap.size, 0, none⟩), .pointer (some ⟨Bx, 0, none⟩), .string s, .slice a1 L.length c1, .tuple #[.slice a2 L.length c2, .bool true], .string s, .tuple #[.slice a2 L.length c2, .bool true], .slice a2 L.length c2, .bool true, .bool true, .bool false, .bool false, .slice a2 L.length c2, .slice a1 L.length c1, .bool true, .bool false, .bool false, .int .i64 stop, .int .i64 k0, .string s, .func (.func 30) #[] #[.pointer (some ⟨w4.heap.size + 1, 0, none⟩)], itv x, undef, undef, undef, undef, undef, undef, undef, undef, undef, undef, undef, undef, undef, undef, undef, undef, undef, undef, undef, undef, undef, undef, undef, undef, undef, undef, undef, undef, undef, undef, undef, undef, undef, undef, undef, undef, undef, undef, undef, undef, undef, undef, undef, undef, undef], defers := [] })
    (fun x a' _ X Y row hs hg hr => by
      obtain ⟨Bx, h1, h2, h3⟩ := hs
      exact ⟨Bx, h1, (hg.block Bx (Array.getElem?_eq_some_iff.1 h2).1 (fun e => by obtain ⟨_, o, ho, hc⟩ := hr Bx e.symm; rw [h2] at ho; cases ho; cases hc)).trans h2, h3⟩)
    ?assign ?body ?done ?stop
  case own => exact OwnFrom.and (OwnFrom.and (OwnFrom.and (OwnFrom.and (OwnFrom.and (OwnFrom.and (Own.from (boxed_own _ _ _) _) (Own.from (boxed_own _ _ _) _)) (Own.from (boxed_own _ _ _) _)) (Own.from (boxed_own _ _ (fun pre : List It => .int .i64 (pre.length : Nat))) _)) (Own.from (itb_own _ _ _ _) _)) (Own.from (boxed_own _ _ _) _)) (ownFrom_below (Nat.le_refl _) (by omega))
  case ownx => exact fun c => OwnFrom.and (OwnFrom.and (ownFrom_pure _ (fun _ => c = .ret)) (Own.from (show Go.Own (fun (pre : List It) W => pre <+: L → Boxed W (w.heap.size + 1) 4 (.bool true)) from fun pre A B row hs hg hr hp => boxed_own (w.heap.size + 1) 4 (fun _ : List It => .bool true) pre A B row (hs hp) hg hr) _)) (ownFrom_below (Nat.le_refl _) (by omega))
  case assign =>
    rintro l pre x W K ⟨⟨⟨⟨⟨⟨bSt, bR⟩, bW⟩, bN⟩, hi⟩, bX⟩, hB⟩ hK
    unfold itv
    gi_wp2
    exact hK _ _ ((KeepsOthers.alloc _ _).from _) ((KpI.of_below (n₀ := W.heap.size) ((Below.refl _ W).alloc (Nat.le_refl _) _) (Nat.le_refl _)).toJ bX.lt) ⟨⟨⟨⟨⟨⟨bSt.alloc _, bR.alloc _⟩, bW.alloc _⟩, bN.alloc _⟩, hi.below ((Below.refl _ W).alloc (Nat.le_refl _) _)⟩, bX.alloc _⟩, hB.alloc hB.size _⟩ ⟨W.heap.size, bX.lt, World.alloc_heap_new W _, rfl⟩
  case body =>
    rintro l pre x a' W hl ⟨r, hr⟩ ⟨⟨⟨⟨⟨⟨bSt, bR⟩, bW⟩, bN⟩, hi⟩, bX⟩, hB⟩ ⟨Bx, hBx, hX, rfl⟩ hlt
    obtain ⟨y, hy⟩ : ∃ y, L[pre.length]? = some y := ⟨L[pre.length], List.getElem?_eq_getElem hlt⟩
    have HI := hi
    rcases hi with h | ⟨g, rfl, hg1, hg2, h4⟩
    · rw [h] at hlt; simp at hlt
    obtain ⟨y0, -, -, -⟩ := h4 _ _ hy
    obtain ⟨x0, -, -, -⟩ := cells_it hX
    have cN := bN.cell
    have cW := bW.cell
    have cSt := bSt.cell
    have cR := bR.cell
    have fR := bR.frozen
    have fN := bN.frozen
    have q0 : decide (L.length ≤ pre.length) = false := by simp; omega
    by_cases e1 : x.frm = y.frm
    · by_cases e2 : pre.length = k0
      · have q1 : ((x.frm : Int) != (y.frm : Int)) = false := by simp; omega
        have q2 : ((pre.length : Int) == (k0 : Int)) = true := by simp; omega
        have q3 : ((x.frm : Int) == (y.frm : Int)) = true := by simp; omega
        have q4 : decide (pre.length < L.length) = true := by simpa using hlt
        clear e1 e2 h4 hy HW HS
        gi_wp2
        refine wpIn_region_quietR (by kernel_rfl) (by kernel_rfl) (by kernel_rfl) ?_
        repeat (gi_big_quiet_step (fail))
        refine wpQuietIn_nil ?_
        intro _ hw'
        obtain ⟨nq, hw''⟩ := hw'
        subst hw''
        gi_wp2
        have kN := cell_regrown (w := W.drewN nq) cN
        have kW := cell_regrown (w := W.drewN nq) cW
        have ky := cell_regrown (w := W.drewN nq) y0
        have kx := cell_regrown (w := W.drewN nq) x0
        clear cN cW y0 x0 cSt
        refine wpIn_region_quiet_tail (C := fun w' => ∃ p : Regrown, w' = grow (redrawn (W.drewN nq) p.d) p.os) 17 (by kernel_rfl) (by kernel_rfl) (by kernel_rfl) ⟨⟨_, #[]⟩, by rw [grow_empty]; rfl⟩ ?_
        simp only [List.take_succ_cons, List.take_zero, List.drop_succ_cons, List.drop_zero]
        repeat (gi_big_quiet_step (fail))
        refine wpQuietIn_step (fun _ _ _ _ => trivial) (fun K hK => ?_)
        go_simp
        apply Exists.intro
        refine ⟨fun _ => ?_, hK _ ?_⟩
        · exact CallsIn.regrown_of (CallsIn.inRound l (callsIn_wide.2 (known_any _)))
        clear hK K
        repeat (gi_big_quiet_step (fail))
        refine wpQuietIn_nil ?_
        intro W5 hw'
        have hb5 : Below (W.drewN nq).heap.size (W.drewN nq) W5 := by
          obtain ⟨⟨dq, osq⟩, rfl⟩ := hw'
          exact below_regrown _ _ _
        clear hw' kN kW ky kx cR fR fN
        have bR5 := boxed_below (W := W.drewN nq) bR hb5 bR.lt
        have cR := bR5.cell
        have fR := bR5.frozen
        gi_wp2
        refine ⟨(((keepsOthers_drewN W nq).trans (keepsOthers_below hb5)).trans (KeepsOthers.setCell _ _ _)).from _, ⟨rfl, fun _ => bR5.set _⟩, ?_⟩
        exact ((below_drewN hB nq).trans (hb5.mono hB.size)).setCell (p := ⟨w.heap.size + 1, 0, none⟩) (show w.heap.size ≤ w.heap.size + 1 by omega) _
      · have q1 : ((x.frm : Int) != (y.frm : Int)) = false := by simp; omega
        have q2 : ((pre.length : Int) == (k0 : Int)) = false := by simp; omega
        clear e1 e2 h4 hy HW HS
        gi_wp2
        refine wpIn_region_quietR (by kernel_rfl) (by kernel_rfl) (by kernel_rfl) ?_
        repeat (gi_big_quiet_step (fail))
        refine wpQuietIn_nil ?_
        intro _ hw'
        obtain ⟨nq, hw''⟩ := hw'
        subst hw''
        gi_wp2
        have bN' : Boxed (W.drewN nq) w4.heap.size 3 (.int .i64 (pre.length : Nat)) := bN
        have hd : Below w.heap.size w (W.drewN nq) := below_drewN hB nq
        have HI' : ITB (w.heap.size + 1 + 1) w1.heap.size (W.drewN nq) (some ⟨g, 0, none⟩) L := HI
        refine ⟨(((keepsOthers_drewN W nq).trans (KeepsOthers.setCell _ _ _)).from _), KpJ.setBox (W := W.drewN nq) _ bN' (by decide) (by omega), ⟨⟨⟨⟨⟨Boxed.other (W := W.drewN nq) bSt (by omega) _, Boxed.other (W := W.drewN nq) bR (by omega) _⟩, Boxed.other (W := W.drewN nq) bW (by omega) _⟩, ?_⟩, HI'.other _ (.inr (by omega))⟩, Boxed.other (W := W.drewN nq) bX (by omega) _⟩, hd.setCell (p := ⟨w4.heap.size, 0, none⟩) (show w.heap.size ≤ w4.heap.size by omega) _⟩
        have e : ((pre ++ [x]).length : Int) = (pre.length : Int) + 1 := by simp
        rw [e]
        exact bN'.set _
    · have q1 : ((x.frm : Int) != (y.frm : Int)) = true := by simp; omega
      have q3 : ((x.frm : Int) == (y.frm : Int)) = false := by simp; omega
      have q4 : decide (pre.length < L.length) = true := by simpa using hlt
      have HC : Hid (¬ (pre ++ [x]) <+: L) := fun ⟨r, hr⟩ => by
        rw [← hr, List.append_assoc, List.getElem?_append_right (Nat.le_refl _), Nat.sub_self] at hy
        have : x = y := by simpa using hy
        exact e1 (by rw [this])
      clear e1 h4 hy HW HS
      gi_wp2
      refine wpIn_region_quietR (by kernel_rfl) (by kernel_rfl) (by kernel_rfl) ?_
      repeat (gi_big_quiet_step (fail))
      refine wpQuietIn_nil ?_
      intro _ hw'
      obtain ⟨nq, hw''⟩ := hw'
      subst hw''
      gi_wp2
      have kN := cell_regrown (w := W.drewN nq) cN
      have kW := cell_regrown (w := W.drewN nq) cW
      have ky := cell_regrown (w := W.drewN nq) y0
      have kx := cell_regrown (w := W.drewN nq) x0
      clear cN cW y0 x0 cSt
      refine wpIn_region_quiet_tail (C := fun w' => ∃ p : Regrown, w' = grow (redrawn (W.drewN nq) p.d) p.os) 17 (by kernel_rfl) (by kernel_rfl) (by kernel_rfl) ⟨⟨_, #[]⟩, by rw [grow_empty]; rfl⟩ ?_
      simp only [List.take_succ_cons, List.take_zero, List.drop_succ_cons, List.drop_zero]
      repeat (gi_big_quiet_step (fail))
      refine wpQuietIn_step (fun _ _ _ _ => trivial) (fun K hK => ?_)
      go_simp
      refine hK _ ?_
      clear hK K
      repeat (gi_big_quiet_step (fail))
      refine wpQuietIn_nil ?_
      intro W5 hw'
      have hb5 : Below (W.drewN nq).heap.size (W.drewN nq) W5 := by
        obtain ⟨⟨dq, osq⟩, rfl⟩ := hw'
        exact below_regrown _ _ _
      clear hw' kN kW ky kx cR fR fN
      have bR5 := boxed_below (W := W.drewN nq) bR hb5 bR.lt
      have cR := bR5.cell
      have fR := bR5.frozen
      gi_wp2
      refine ⟨(((keepsOthers_drewN W nq).trans (keepsOthers_below hb5)).trans (KeepsOthers.setCell _ _ _)).from _, ⟨rfl, fun h => absurd h HC.out⟩, ?_⟩
      exact ((below_drewN hB nq).trans (hb5.mono hB.size)).setCell (p := ⟨w.heap.size + 1, 0, none⟩) (show w.heap.size ≤ w.heap.size + 1 by omega) _
  case done =>
    rintro D ys W hD rfl ⟨⟨⟨⟨⟨⟨bSt, bR⟩, bW⟩, bN⟩, hi⟩, bX⟩, hB⟩ hK
    have cN := bN.cell
    have cW := bW.cell
    have hl0 := hB.size
    gi_wp2_with fail
    refine ⟨trivial, (callsIn_wide.2 (known_any _)).mono ?_⟩
    rintro e w7 ⟨rfl, hb7⟩
    have bR7 := boxed_below bR hb7 bR.lt
    have cR := bR7.cell
    have fR := bR7.frozen
    have hK7 : w7.heap[D]? = some (.deferred (some [])) := (hb7.block D (Array.getElem?_eq_some_iff.1 hK).1).trans hK
    clear cN cW
    gi_wp2_with fail
    have hK8 : (w7.setCell ⟨w.heap.size + 1, 0, none⟩ (.bool true)).heap[D]? = some (.deferred (some [])) := (KeepsOthers.setCell w7 ⟨w.heap.size + 1, 0, none⟩ (.bool true)).same D _ hK7 rfl
    have hc8 := cell_kept (bR7.set (.bool true)).cell (grownBy_putObj' (w7.setCell ⟨w.heap.size + 1, 0, none⟩ (.bool true)) D (.deferred none)) (fun r e => by cases e; exact ⟨_, hK8, rfl⟩)
    have hB8 : Below w.heap.size w (w7.setCell ⟨w.heap.size + 1, 0, none⟩ (.bool true)) := (hB.trans (hb7.mono hB.size)).setCell (p := ⟨w.heap.size + 1, 0, none⟩) (show w.heap.size ≤ w.heap.size + 1 by omega) _
    refine ⟨by simp, .inl ⟨_, _, rfl, run_takeDeferred hK8, ?_⟩⟩
    exact ⟨.bool true, by simp [results, Try.results4, go_sem, hc8], rfl, hB8.trans (belowK_b (w := w) (Nat.le_refl _) _ D _ _ (by omega) hK8 rfl rfl)⟩
  case stop =>
    rintro D c pre W hD hp ⟨⟨rfl, hR⟩, hB⟩ hK
    have bR := hR hp
    have hc8 := cell_kept bR.cell (grownBy_putObj' W D (.deferred none)) (fun r e => by cases e; exact ⟨_, hK, rfl⟩)
    gi_wp2_with fail
    refine ⟨by simp, .inl ⟨_, _, rfl, run_takeDeferred hK, ?_⟩⟩
    exact ⟨.bool true, by simp [results, Try.results4, go_sem, hc8], rfl, hB.trans (belowK_b (w := w) (Nat.le_refl _) _ D _ _ (by omega) hK rfl rfl)⟩
end Go.Proofs.Ythlcdaopldnocaa
