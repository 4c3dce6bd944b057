/- ClassesRuns: the walk. -/
import Derived.Test.YtddeamecgbdajaaDoorCRefRuns
import Derived.Test.YtddeamecgbdajaaDoorCNumbers
import Derived.Test.YtddeamecgbdajaaDoorCFew
import Derived.Test.YtddeamecgbdajaaDoorURegion
namespace Go.Proofs.YtddeamecgbdajaaDoor
open Go.RowKit Go.Shelf Go.Sort
open Go.Joins
attribute [local go_sem] Oper.semAt_some
/-- The slice that begins at a holds the runs L. -/
def RSL (w : World) (a : Option Addr) (L : List Rn) : Prop := ∀ i x, L[i]? = some x → ∃ g, a = some ⟨g, 0, none⟩ ∧ RnAt w g i x
theorem RnAt.below {W W' : World} {g i : Nat} {x : Rn} (h : RnAt W g i x) (hb : Below W.heap.size W W') : RnAt W' g i x :=
  ⟨(hb.cell (World.block_lt_of_cell? W _ h.1)).trans h.1, (hb.cell (World.block_lt_of_cell? W _ h.2.1)).trans h.2.1, (hb.cell (World.block_lt_of_cell? W _ h.2.2.1)).trans h.2.2.1, (hb.cell (World.block_lt_of_cell? W _ h.2.2.2)).trans h.2.2.2⟩
theorem RSL.below {w w' : World} {a : Option Addr} {L : List Rn} (h : RSL w a L) (hb : Below w.heap.size w w') : RSL w' a L := fun i x hx => by
  obtain ⟨g, h1, h2⟩ := h i x hx
  exact ⟨g, h1, h2.below hb⟩
theorem OwnR.rsl {T : TypeId} {w : World} {base : Nat} {v : Value} {L : List Rn} (h : OwnR T w base v L) : ∃ a c, v = .slice a L.length c ∧ RSL w a L := by
  rcases h.1.2 with ⟨hv, h0⟩ | ⟨g, cap, cur, hv, hg, hh, hn, hm, hs, ht⟩
  · have : L = [] := List.length_eq_zero_iff.1 h0
    subst this
    exact ⟨none, 0, hv, fun i x hx => by simp at hx⟩
  · subst hv
    exact ⟨_, cap, rfl, fun i x hx => ⟨g, rfl, row_at h.1 rfl hx⟩⟩
theorem boxed_below' {W W' : World} {B B' : Nat} {t : TypeId} {v : Value} (h : Boxed W B t v) (hb : Below B' W W') (hB : B < B') : Boxed W' B t v := (hb.block B hB).trans h
theorem cellSet {W : World} {B : Nat} {t : TypeId} {v : Value} (hB : Boxed W B t v) (x : Value) {b o : Nat} {u : Value} (hc : W.cell? ⟨b, o, none⟩ = some u) (hn : u ≠ v ∨ b ≠ B) : (W.setCell ⟨B, 0, none⟩ x).cell? ⟨b, o, none⟩ = some u := by
  have hb : b ≠ B := by
    rcases hn with hn | hn
    · rintro rfl
      simp only [World.cell?, show W.heap[b]? = _ from hB] at hc
      match o, hc with
      | 0, hc => simp at hc; exact hn hc.symm
      | o + 1, hc => simp at hc
    · exact hn
  exact (World.cell?_of_block (w := W) (a := ⟨b, o, none⟩) (Below.heap_setCell W ⟨B, 0, none⟩ x b (fun e => hb (by simpa using e)))).trans hc
theorem RSL.cset {W : World} {B : Nat} {t : TypeId} {v : Value} {a : Option Addr} {L : List Rn} (h : RSL W a L) (hB : Boxed W B t v) (x : Value) : RSL (W.setCell ⟨B, 0, none⟩ x) a L := fun i y hy => by
  obtain ⟨g, h1, h2⟩ := h i y hy
  have hg : g ≠ B := by
    rintro rfl
    have := h2.2.1
    simp only [World.cell?, show W.heap[g]? = _ from hB] at this
    simp at this
  exact ⟨g, h1, cellSet hB x h2.1 (.inr hg), cellSet hB x h2.2.1 (.inr hg), cellSet hB x h2.2.2.1 (.inr hg), cellSet hB x h2.2.2.2 (.inr hg)⟩
theorem SPS.cset {W : World} {B : Nat} {t : TypeId} {v : Int} {a : Option Addr} {l : List Sp} (h : SPS W a l) (hB : Boxed W B t (.int .i64 v)) (x : Value) : SPS (W.setCell ⟨B, 0, none⟩ x) a l := by
  rcases h with h | ⟨b, off, rfl, hc⟩
  · exact .inl h
  · exact .inr ⟨b, off, rfl, fun i y hy => ⟨cellSet hB x (hc i y hy).1 (.inl (by simp)), cellSet hB x (hc i y hy).2 (.inl (by simp))⟩⟩
theorem TabAt.cset {W : World} {B : Nat} {t : TypeId} {v : Int} {g : Nat} {A' B' C' : List Sp} (h : TabAt W g A' B' C') (hB : Boxed W B t (.int .i64 v)) (x : Value) : TabAt (W.setCell ⟨B, 0, none⟩ x) g A' B' C' := by
  obtain ⟨a, b, c, ca, cb, cc, ⟨h1, h2, h3⟩, h4, h5, h6⟩ := h
  exact ⟨a, b, c, ca, cb, cc, ⟨cellSet hB x h1 (.inl (by simp)), cellSet hB x h2 (.inl (by simp)), cellSet hB x h3 (.inl (by simp))⟩, ⟨h4.le, h4.cap, h4.at'.cset hB x⟩, ⟨h5.le, h5.cap, h5.at'.cset hB x⟩, ⟨h6.le, h6.cap, h6.at'.cset hB x⟩⟩
theorem GL.cset {W : World} {B : Nat} {t : TypeId} {v : Int} (h : GL W) (hB : Boxed W B t (.int .i64 v)) (x : Value) : GL (W.setCell ⟨B, 0, none⟩ x) :=
  ⟨⟨cellSet hB x h.1.1 (.inl (by simp)), cellSet hB x h.1.2 (.inl (by simp))⟩, ⟨cellSet hB x h.2.1.1 (.inl (by simp)), cellSet hB x h.2.1.2 (.inl (by simp))⟩, ⟨cellSet hB x h.2.2.1 (.inl (by simp)), cellSet hB x h.2.2.2 (.inl (by simp))⟩⟩
theorem keepsOthers_below {W W' : World} (h : Below W.heap.size W W') : KeepsOthers W W' := ⟨h.size, fun k _ hk _ => (h.block k (Array.getElem?_eq_some_iff.1 hk).1).trans hk⟩
theorem keepsOthers_drewN (W : World) (n : Nat) : KeepsOthers W (W.drewN n) := ⟨Nat.le_refl _, fun _ _ h _ => h⟩
theorem inBlock_both {id : Nat} {X : Exit → Act → World → Prop} {e : Exit} {a : Act} {w : World} (he : e = .normal ∨ e = .exit id) (h : X .normal a w) : Exit.inBlock id X e a w := by
  rcases he with rfl | rfl <;> simpa [Exit.inBlock] using h
/-- What a turn begins with. -/
structure TurnR (w0 W : World) (z T0 : Nat) (D : Array Value) (k0 tau : Nat) (bw : Nat) (a2 : Option Addr) (c2 : Nat) (L : List Rn) (bt bs g : Nat) (A B C : List Sp) (s : ByteArray) : Prop where
  stop : Boxed W (z + 1) 3 (.int .i64 (k0 : Nat))
  res : Boxed W (z + 2) 4 (.bool false)
  turn : Boxed W T0 3 (.int .i64 (tau : Nat))
  want : Boxed W bw 59 (.slice a2 L.length c2)
  row : RSL W a2 L
  boxT : Boxed W bt 22 (.pointer (some ⟨g, 0, none⟩))
  boxS : Boxed W bs 9 (.string s)
  tab : TabAt W g A B C
  gl : GL W
  bel : Below w0.heap.size w0 W
theorem TurnR.below {w0 W W' : World} {z T0 : Nat} {D : Array Value} {k0 tau : Nat} {bw : Nat} {a2 : Option Addr} {c2 : Nat} {L : List Rn} {bt bs g : Nat} {A B C : List Sp} {s : ByteArray} (h : TurnR w0 W z T0 D k0 tau bw a2 c2 L bt bs g A B C s) (hb : Below W.heap.size W W') :
    TurnR w0 W' z T0 D k0 tau bw a2 c2 L bt bs g A B C s :=
  ⟨boxed_below' h.stop hb h.stop.lt, boxed_below' h.res hb h.res.lt, boxed_below' h.turn hb h.turn.lt, boxed_below' h.want hb h.want.lt, h.row.below hb, boxed_below' h.boxT hb h.boxT.lt, boxed_below' h.boxS hb h.boxS.lt, h.tab.below hb, h.gl.below hb, h.bel.trans (hb.mono h.bel.size)⟩
set_option maxRecDepth 100000 in
set_option maxHeartbeats 16000000 in
theorem runs_walk (s0 s1 a b c : Option Addr) (n0 c0 n1 c1 ca cb cc : Nat) (A B C : List Sp) (s : ByteArray) (stop : Int) (w : World) (hA : Lst w a ca A) (hB : Lst w b cb B) (hC : Lst w c cc C) (hG : GL w) :
    Calls Tryd.prog 6 #[dtV (.slice s0 n0 c0) (.slice s1 n1 c1) a b c A.length ca B.length cb C.length cc, .string s, .int .i64 stop] w fun e w' => e = .returned (.bool true) ∧ Below w.heap.size w w' := by
  refine (callsIn_wide (n := 6)).1 ?_
  have h1 : 1 ≤ 6 := by omega
  have H1 := fun (wx : World) (h1 : Lst wx a ca A) (h2 : Lst wx b cb B) (h3 : Lst wx c cc C) (hg : GL wx) => lawRight_any s0 s1 a b c n0 c0 n1 c1 ca cb cc A B C wx h1 h2 h3 hg
  have H2 := fun (wx : World) (h1 : Lst wx a ca A) (h2 : Lst wx b cb B) (h3 : Lst wx c cc C) => refRuns_any s0 s1 a b c n0 c0 n1 c1 ca cb cc A B C (fewS s) (fewS_size s) wx h1 h2 h3
  have hRg : (checkA A B C).1 = 0 → Rgt A ∧ Rgt B ∧ Rgt C := fun h => (check_pass h).1.rgt (by omega)
  have hnf := runs_nil
  obtain ⟨y, hy⟩ : ∃ y, y = (checkA A B C).1 := ⟨_, rfl⟩
  rw [← hy] at hRg
  simp only [← hy] at H1
  have HRg : Hid (y = 0 → Rgt A ∧ Rgt B ∧ Rgt C) := hRg
  clear hy hRg
  unfold dtV at H1 H2 ⊢
  obtain ⟨V0, hV0⟩ : ∃ V0, V0 = ((w.alloc (.cells #[.slice s0 n0 c0, .slice s1 n1 c1, .slice a A.length ca, .slice b B.length cb, .slice c C.length cc] 47)).alloc (.cells #[.int .i64 stop] 3)).alloc (.cells #[.bool false] 4) := ⟨_, rfl⟩
  have b0 : Below w.heap.size w V0 := by rw [hV0]; exact (((Below.refl _ w).alloc (Nat.le_refl _) _).alloc (by simp) _).alloc (by simp; omega) _
  have z0 : V0.heap.size = w.heap.size + 3 := by rw [hV0]; simp
  have hD0 : V0.heap[w.heap.size]? = some (.cells #[.slice s0 n0 c0, .slice s1 n1 c1, .slice a A.length ca, .slice b B.length cb, .slice c C.length cc] 47 (0, 0)) := by
    rw [hV0]
    refine ((((Below.refl _ _).alloc (Nat.le_refl _) _).alloc (by simp) _).block w.heap.size (by simp)).trans (heap_alloc_new w _)
  have bS0 : Boxed V0 (w.heap.size + 1) 3 (.int .i64 stop) := by
    have := (Boxed.new (w.alloc (.cells #[.slice s0 n0 c0, .slice s1 n1 c1, .slice a A.length ca, .slice b B.length cb, .slice c C.length cc] 47)) 3 (.int .i64 stop)).alloc (.cells #[.bool false] 4)
    rw [World.size_alloc] at this
    rw [hV0]; exact this
  have bR0 : Boxed V0 (w.heap.size + 2) 4 (.bool false) := by
    have := Boxed.new ((w.alloc (.cells #[.slice s0 n0 c0, .slice s1 n1 c1, .slice a A.length ca, .slice b B.length cb, .slice c C.length cc] 47)).alloc (.cells #[.int .i64 stop] 3)) 4 (.bool false)
    rw [World.size_alloc, World.size_alloc] at this
    rw [hV0]; exact this
  have hA0 := hA.below b0
  have hB0 := hB.below b0
  have hC0 := hC.below b0
  have hG0 := hG.below b0
  refine callsIn_of_wp_marks Tryd.func6 rfl trivial ?_ rfl
  simp only [Tryd.ntmps6, List.size_toArray, List.length_cons, List.length_nil, Nat.reduceAdd, Nat.reduceSub, Array.replicate_succ, Array.replicate_zero, List.push_toArray, List.append_toArray, List.nil_append, List.cons_append]
  gi_wp2_with fail
  rw [← hV0]
  clear hV0 hA hB hC hG
  obtain ⟨z, hz⟩ : ∃ z, z = w.heap.size := ⟨_, rfl⟩
  have HZ : Hid (z = w.heap.size) := hz
  have ez : w.heap.size + 1 + 1 = w.heap.size + 2 := rfl
  simp only [ez]
  rw [← hz] at hD0 bS0 bR0 z0 ⊢
  clear ez hz
  refine ⟨trivial, (callsIn_wide.2 (H1 _ hA0 hB0 hC0 hG0)).mono ?_⟩
  rintro e w1 ⟨p, rfl, hp1, hp2, hb1⟩
  have hA1 := hA0.below hb1
  have hB1 := hB0.below hb1
  have hC1 := hC0.below hb1
  have hG1 := hG0.below hb1
  have hs1 := hb1.size
  have hD1 := (hb1.block z (by omega)).trans hD0
  have bS1 := boxed_below' bS0 hb1 bS0.lt
  have bR1 := boxed_below' bR0 hb1 bR0.lt
  have B1 := b0.trans (hb1.mono b0.size)
  clear H1 hA0 hB0 hC0 hG0 hD0 bS0 bR0 hb1 b0
  by_cases h0 : y = 0
  · obtain ⟨g, rfl, hO⟩ := hp1 h0
    obtain ⟨rA, rB, rC⟩ := HRg.out h0
    have hT1 := hO.tab
    have hd : decide (y = 0) = true := decide_eq_true h0
    clear hp1 hp2 hO h0 HRg
    have d0 := cell_of_block hD1 (i := 0)
    have d1 := cell_of_block hD1 (i := 1)
    have d2 := cell_of_block hD1 (i := 2)
    have d3 := cell_of_block hD1 (i := 3)
    have d4 := cell_of_block hD1 (i := 4)
    gi_wp2_with fail
    refine ⟨trivial, (callsIn_wide.2 (few_any s _)).mono ?_⟩
    rintro e w2 ⟨rfl, he⟩
    obtain rfl := he.symm
    gi_wp2_with fail
    refine ⟨trivial, (callsIn_wide.2 (H2 _ hA1 hB1 hC1)).mono ?_⟩
    rintro e w3 ⟨v, rfl, hO3, hb3⟩
    obtain ⟨a2, c2, rfl, hR3⟩ := hO3.rsl
    have hL0 : (items 0 (tl (fewS s))).length ≤ 500 := by
      have := items_length (tl (fewS s)) 0
      rw [tl_len] at this
      have := fewS_size s
      omega
    have hsz500 := fewS_size s
    generalize fewS s = t at *
    obtain ⟨L, hL⟩ : ∃ L, L = runsL (kindsL A B C (items 0 (tl t))) t.size := ⟨_, rfl⟩
    have HL : Hid (L = runsL (kindsL A B C (items 0 (tl t))) t.size) := hL
    rw [← hL] at hR3 ⊢
    clear hL hO3
    have ba : Below w3.heap.size w3 (w3.alloc (.cells #[.slice a2 L.length c2] 59)) := (Below.refl _ _).alloc (Nat.le_refl _) _
    have bW4 := Boxed.new w3 59 (.slice a2 L.length c2)
    have hR4 := hR3.below ba
    have hs3 := hb3.size
    have hb4 := hb3.trans (ba.mono hb3.size)
    have hT4 := hT1.below hb4
    have hG4 := hG1.below hb4
    have bS4 := boxed_below' bS1 hb4 bS1.lt
    have bR4 := boxed_below' bR1 hb4 bR1.lt
    have B4 := B1.trans (hb4.mono B1.size)
    have hlw : w3.heap.size < (w3.alloc (.cells #[.slice a2 L.length c2] 59)).heap.size := by simp
    clear H2 hA1 hB1 hC1 hT1 hG1 hD1 bS1 bR1 B1 hb3 ba hb4 hR3 d0 d1 d2 d3 d4
    gi_wp2_with fail
    obtain ⟨W4, hW4⟩ : ∃ W4, W4 = w3.alloc (.cells #[.slice a2 L.length c2] 59) := ⟨_, rfl⟩
    rw [← hW4] at bW4 hR4 hT4 hG4 bS4 bR4 B4 hlw ⊢
    clear hW4
    obtain ⟨bw, hbw⟩ : ∃ bw, bw = w3.heap.size := ⟨_, rfl⟩
    rw [← hbw] at bW4 hlw hs3 ⊢
    clear hbw
    refine ⟨trivial, (runs_in _ g t _).mono ?_⟩
    rintro e w5 ⟨rfl, hw5⟩
    have bT5 : Boxed w5 W4.heap.size 22 (.pointer (some ⟨g, 0, none⟩)) := by rw [hw5]; exact (Boxed.new W4 _ _).alloc _
    have bS5 : Boxed w5 (W4.heap.size + 1) 9 (.string t) := by
      have := Boxed.new (W4.alloc (.cells #[.pointer (some ⟨g, 0, none⟩)] 22)) 9 (.string t)
      rw [World.size_alloc] at this
      rw [hw5]; exact this
    have b45 : Below W4.heap.size W4 w5 := by rw [hw5]; exact ((Below.refl _ _).alloc (Nat.le_refl _) _).alloc (by simp) _
    have z5 : w5.heap.size = W4.heap.size + 2 := by rw [hw5]; simp
    have stop5 := boxed_below' bS4 b45 bS4.lt
    have res5 := boxed_below' bR4 b45 bR4.lt
    have want5 := boxed_below' bW4 b45 bW4.lt
    have hR5 := hR4.below b45
    have hT5 := hT4.below b45
    have hG5 := hG4.below b45
    have B5 := B4.trans (b45.mono B4.size)
    obtain ⟨bt, hbt⟩ : ∃ bt, bt = W4.heap.size := ⟨_, rfl⟩
    rw [← hbt] at bT5 bS5 z5 hlw ⊢
    clear hw5 b45 bS4 bR4 bW4 hR4 hT4 hG4 B4 hbt
    have cS5 := stop5.cell
    have fS5 := stop5.frozen
    gi_wp2_with fail
    refine ⟨trivial, (callsIn_wide.2 (within9_any stop _)).mono ?_⟩
    rintro e w6 ⟨k0, hk9, rfl, he⟩
    obtain rfl := he.symm
    have HT : TurnR w ((w5.setCell ⟨z + 1, 0, none⟩ (.int .i64 (k0 : Nat))).alloc (.cells #[.int .i64 ((0 : Nat) : Int)] 3)) z w5.heap.size #[] k0 0 bw a2 c2 L bt (bt + 1) g A B C t := by
      have hne : ∀ {k : Nat} {ty : TypeId} {v : Value}, Boxed w5 k ty v → k ≠ z + 1 → Boxed ((w5.setCell ⟨z + 1, 0, none⟩ (.int .i64 (k0 : Nat))).alloc (.cells #[.int .i64 ((0 : Nat) : Int)] 3)) k ty v := fun h hk => (h.other hk _).alloc _
      have hk1 : z + 1 < w5.heap.size := stop5.lt
      have hba : ∀ W : World, Below W.heap.size W (W.alloc (.cells #[.int .i64 ((0 : Nat) : Int)] 3)) := fun W => (Below.refl _ _).alloc (Nat.le_refl _) _
      have bN : Boxed ((w5.setCell ⟨z + 1, 0, none⟩ (.int .i64 (k0 : Nat))).alloc (.cells #[.int .i64 ((0 : Nat) : Int)] 3)) w5.heap.size 3 (.int .i64 ((0 : Nat) : Int)) := by
        have := Boxed.new (w5.setCell ⟨z + 1, 0, none⟩ (.int .i64 (k0 : Nat))) 3 (.int .i64 ((0 : Nat) : Int))
        rwa [World.size_setCell] at this
      have hbz : Below w.heap.size w ((w5.setCell ⟨z + 1, 0, none⟩ (.int .i64 (k0 : Nat))).alloc (.cells #[.int .i64 ((0 : Nat) : Int)] 3)) := (B5.setCell (p := ⟨z + 1, 0, none⟩) (show w.heap.size ≤ z + 1 by rw [HZ.out]; omega) _).alloc (by simpa using B5.size) _
      exact ⟨(stop5.set _).alloc _, hne res5 (by omega), bN, hne want5 (by omega), (hR5.cset stop5 _).below (hba _), hne bT5 (by omega), hne bS5 (by omega), (hT5.cset stop5 _).below (hba _), (hG5.cset stop5 _).below (hba _), hbz⟩
    clear stop5 res5 want5 hR5 hT5 hG5 bT5 bS5 B5
    gi_wp2_with fail
    clear cS5 fS5 he
    obtain ⟨WTa, hWTa⟩ : ∃ W, W = (w5.setCell ⟨z + 1, 0, none⟩ (.int .i64 (k0 : Nat))).alloc (.cells #[.int .i64 0] 3) := ⟨_, rfl⟩
    have HTa : TurnR w WTa z (bt + 2) #[] k0 0 bw a2 c2 L bt (bt + 1) g A B C t := by rw [hWTa, ← z5]; exact HT
    rw [← hWTa]
    clear HT hWTa z5
    refine wpIn_loop_rounds 3 ?_
    rw [roundsIn_succ]
    have cT0 : WTa.cell? ⟨bt + 2, 0, none⟩ = some (.int .i64 0) := HTa.turn.cell
    gi_wp2_with fail
    clear cT0
    have hBta : Below WTa.heap.size WTa (WTa.alloc (.cells #[.int .i64 0] 3)) := (Below.refl _ WTa).alloc (Nat.le_refl _) _
    have HUa := HTa.below hBta
    have b9a : Boxed (WTa.alloc (.cells #[.int .i64 0] 3)) WTa.heap.size 3 (.int .i64 (([] : List Rn).length : Nat)) := Boxed.new WTa 3 (.int .i64 0)
    obtain ⟨B9a, hB9a⟩ : ∃ B, B = WTa.heap.size := ⟨_, rfl⟩
    have H9a : Hid (B9a = WTa.heap.size) := hB9a
    obtain ⟨V0a, hV0a⟩ : ∃ V0, V0 = WTa.alloc (.cells #[.int .i64 0] 3) := ⟨_, rfl⟩
    rw [← hV0a] at hBta HUa b9a ⊢
    rw [← hB9a] at b9a ⊢
    clear hV0a hB9a
    have hsta := runs_stops 5 (by omega) (bt + 1) bt g t (by omega) A B C rA rB rC (fun k _ => k = B9a) WTa V0a (fun k u h => ⟨by rw [h, H9a.out]; exact Nat.le_refl _, .inl (by rw [h]; exact b9a.lt)⟩) HTa.tab HTa.gl HUa.boxS HUa.boxT (fun h => by have := HTa.boxS.lt; have := H9a.out; omega) (KpX.of_below hBta) ((items 0 (tl t)).length + 1) (by omega)
    rw [← HL.out] at hsta
    refine range_runs 14 rfl h1 (gf := 27) (lb := #[.pointer (some ⟨bt, 0, none⟩), .pointer (some ⟨bt + 1, 0, none⟩)]) rfl trivial (enters_of Tryd.func27 (by kernel_rfl) rfl)
      hsta KpX.trans (fun U o o' h2 h3 h4 => KpX.putObj U _ o o' h2 h3 h4) (Below.refl _ _)
      (fun pre U => Boxed U B9a 3 (.int .i64 (pre.length : Nat)) ∧ Below WTa.heap.size WTa U)
      (fun _ pre _ => ¬ pre <+: L)
      (OwnC.and (ownC_box B9a 3 (fun pre : List Rn => .int .i64 (pre.length : Nat)) b9a.lt) (ownC_below (Nat.le_refl _) hBta.size))
      (fun _ => ownC_pure _ _ (fun pre : List Rn => ¬ pre <+: L))
      ⟨b9a, hBta⟩
      ?assign ?body ?done ?stop
    case assign =>
      rintro pre x U K' ⟨c9, hB⟩ hsz hK'
      unfold rnv
      gi_wp2
      exact hK' _ _ ((KeepsOthers.alloc _ _).from _) (KpX.of_below ((Below.refl _ U).alloc (Nat.le_refl _) _)) ⟨c9.alloc _, hB.alloc hB.size _⟩ ⟨U.heap.size, hsz, World.alloc_heap_new U _, rfl⟩
    case body =>
      rintro pre x Bx W ⟨rr, hrr⟩ hBx ⟨c9, hB⟩ hXx hlt
      simp only [actN, List.setIfInBounds_toArray, List.set_cons_succ, List.set_cons_zero]
      have HU2 := HTa.below hB
      have cS := HU2.stop.cell
      have cT : W.cell? ⟨(bt + 2), 0, none⟩ = some (.int .i64 0) := HU2.turn.cell
      have cW := HU2.want.cell
      have cN := c9.cell
      have fN := c9.frozen
      have cR := HU2.res.cell
      have fR := HU2.res.frozen
      have x0 := cell_of_block hXx (i := 0)
      have x1 := cell_of_block hXx (i := 1)
      have x2 := cell_of_block hXx (i := 2)
      have x3 := cell_of_block hXx (i := 3)
      unfold cellR at x0 x1 x2 x3
      have hpl : pre.length ≤ 500 := by omega
      clear hXx hrr hsta
      cases hy : L[pre.length]? with
      | none =>
        have hge := List.getElem?_eq_none_iff.1 hy
        have HC : Hid (¬ (pre ++ [x]) <+: L) := fun h => by have := h.length_le; rw [List.length_append, List.length_singleton] at this; omega
        have q0 : decide (L.length ≤ pre.length) = true := decide_eq_true hge
        clear hge hy
        gi_wp2_with fail
        refine wpIn_region_quietR (by kernel_rfl) (by kernel_rfl) (by kernel_rfl) ?_
        repeat (gi_big_quiet_step (fail))
        refine wpQuietIn_nil ?_
        intro _ hw'
        obtain ⟨nq, hw''⟩ := hw'
        subst hw''
        gi_wp2_with fail
        exact ⟨((keepsOthers_drewN W nq).trans (KeepsOthers.setCell _ _ _)).from _, HC.out⟩
      | some y =>
        obtain ⟨g', hga, r0, r1, r2, r3⟩ := HU2.row _ _ hy
        subst hga
        have hl' := (List.getElem?_eq_some_iff.1 hy).1
        have q0 : decide (L.length ≤ pre.length) = false := decide_eq_false (by omega)
        have HCx : ¬ x = y → ¬ (pre ++ [x]) <+: L := fun hn ⟨r, hr⟩ => by
          rw [← hr, List.append_assoc, List.getElem?_append_right (Nat.le_refl _), Nat.sub_self] at hy
          exact hn (by simpa using hy)
        clear hy
        by_cases e1 : x.kd = y.kd
        · have q1 : ((x.kd : Int) != (y.kd : Int)) = false := by simp; omega
          by_cases e2 : x.frm = y.frm
          · have q2 : ((x.frm : Int) != (y.frm : Int)) = false := by simp; omega
            by_cases e3 : x.too = y.too
            · have q3 : ((x.too : Int) != (y.too : Int)) = false := by simp; omega
              by_cases e4 : x.n = y.n
              · have q4 : ((x.n : Int) != (y.n : Int)) = false := by simp; omega
                clear e1 e2 e3 e4 HCx
                gi_wp2_with fail
                refine wpIn_region_quietR (by kernel_rfl) (by kernel_rfl) (by kernel_rfl) ?_
                repeat (gi_big_quiet_step (fail))
                refine wpQuietIn_nil ?_
                intro _ hw'
                obtain ⟨nq, hw''⟩ := hw'
                subst hw''
                gi_wp2_with fail
                have bN' : Boxed (W.drewN nq) B9a 3 (.int .i64 (pre.length : Nat)) := c9
                have hd : Below WTa.heap.size WTa (W.drewN nq) := below_drewN hB nq
                refine ⟨((keepsOthers_drewN W nq).trans (KeepsOthers.setCell _ _ _)).from _, KpX.setCell (W.drewN nq) B9a 0 _ (fun _ => rfl), ⟨?_, hd.setCell (p := ⟨B9a, 0, none⟩) (by rw [H9a.out]; exact Nat.le_refl _) _⟩⟩
                have e : ((pre ++ [x]).length : Int) = (pre.length : Int) + 1 := by simp
                rw [e]
                exact bN'.set _
              · have q4 : ((x.n : Int) != (y.n : Int)) = true := by simp; omega
                have HC : Hid (¬ (pre ++ [x]) <+: L) := HCx (fun e => e4 (by rw [e]))
                clear e1 e2 e3 e4 HCx
                gi_wp2_with fail
                refine wpIn_region_quietR (by kernel_rfl) (by kernel_rfl) (by kernel_rfl) ?_
                repeat (gi_big_quiet_step (fail))
                refine wpQuietIn_nil ?_
                intro _ hw'
                obtain ⟨nq, hw''⟩ := hw'
                subst hw''
                gi_wp2_with fail
                exact ⟨((keepsOthers_drewN W nq).trans (KeepsOthers.setCell _ _ _)).from _, HC.out⟩
            · have q3 : ((x.too : Int) != (y.too : Int)) = true := by simp; omega
              have HC : Hid (¬ (pre ++ [x]) <+: L) := HCx (fun e => e3 (by rw [e]))
              clear e1 e2 e3 HCx
              gi_wp2_with fail
              refine wpIn_region_quietR (by kernel_rfl) (by kernel_rfl) (by kernel_rfl) ?_
              repeat (gi_big_quiet_step (fail))
              refine wpQuietIn_nil ?_
              intro _ hw'
              obtain ⟨nq, hw''⟩ := hw'
              subst hw''
              gi_wp2_with fail
              exact ⟨((keepsOthers_drewN W nq).trans (KeepsOthers.setCell _ _ _)).from _, HC.out⟩
          · have q2 : ((x.frm : Int) != (y.frm : Int)) = true := by simp; omega
            have HC : Hid (¬ (pre ++ [x]) <+: L) := HCx (fun e => e2 (by rw [e]))
            clear e1 e2 HCx
            gi_wp2_with fail
            refine wpIn_region_quietR (by kernel_rfl) (by kernel_rfl) (by kernel_rfl) ?_
            repeat (gi_big_quiet_step (fail))
            refine wpQuietIn_nil ?_
            intro _ hw'
            obtain ⟨nq, hw''⟩ := hw'
            subst hw''
            gi_wp2_with fail
            exact ⟨((keepsOthers_drewN W nq).trans (KeepsOthers.setCell _ _ _)).from _, HC.out⟩
        · have q1 : ((x.kd : Int) != (y.kd : Int)) = true := by simp; omega
          have HC : Hid (¬ (pre ++ [x]) <+: L) := HCx (fun e => e1 (by rw [e]))
          clear  e1 HCx
          gi_wp2_with fail
          refine wpIn_region_quietR (by kernel_rfl) (by kernel_rfl) (by kernel_rfl) ?_
          repeat (gi_big_quiet_step (fail))
          refine wpQuietIn_nil ?_
          intro _ hw'
          obtain ⟨nq, hw''⟩ := hw'
          subst hw''
          gi_wp2_with fail
          exact ⟨((keepsOthers_drewN W nq).trans (KeepsOthers.setCell _ _ _)).from _, HC.out⟩
    case stop =>
      rintro D c pre W hD hp hx hK
      exact absurd hp hx
    case done =>
      rintro Daa ys W hD hys ⟨c9, hB⟩ hK
      rw [hys] at c9
      clear hys
      refine inBlock_both (.inl rfl) ?_
      have HU3 := HTa.below hB
      have cW := HU3.want.cell
      have cN := c9.cell
      have cT : W.cell? ⟨(bt + 2), 0, none⟩ = some (.int .i64 0) := HU3.turn.cell
      have dn : ((L.length : Int) != (L.length : Int)) = false := by simp
      clear hsta
      gi_wp2_with fail
      have bt1 : Below W.heap.size W (W.alloc (.cells #[.int .i64 1] 3)) := (Below.refl _ _).alloc (Nat.le_refl _) _
      have HV := HU3.below bt1
      have HTb : TurnR w (W.alloc (.cells #[.int .i64 1] 3)) z W.heap.size #[] k0 1 bw a2 c2 L bt (bt + 1) g A B C t := ⟨HV.stop, HV.res, Boxed.new W 3 (.int .i64 1), HV.want, HV.row, HV.boxT, HV.boxS, HV.tab, HV.gl, HV.bel⟩
      have hKa : (W.alloc (.cells #[.int .i64 1] 3)).heap[Daa]? = some (.deferred (some [])) := (bt1.block Daa (Array.getElem?_eq_some_iff.1 hK).1).trans hK
      have hzD : z + 2 < Daa := Nat.lt_of_lt_of_le HUa.res.lt hD
      have hwD : w.heap.size ≤ Daa := by rw [← HZ.out]; omega
      obtain ⟨T1, hT1⟩ : ∃ T, T = W.heap.size := ⟨_, rfl⟩
      obtain ⟨WTb, hWTb⟩ : ∃ V, V = W.alloc (.cells #[.int .i64 1] 3) := ⟨_, rfl⟩
      rw [← hWTb] at HTb hKa ⊢
      rw [← hT1] at HTb ⊢
      clear hWTb hT1 HV bt1 HU3 hK hB c9 cW cN cT dn hBta HUa b9a hD HTa
      have hDla : Daa < WTb.heap.size := (Array.getElem?_eq_some_iff.1 hKa).1
      rw [roundsIn_succ]
      have cT1 : WTb.cell? ⟨T1, 0, none⟩ = some (.int .i64 1) := HTb.turn.cell
      gi_wp2_with fail
      clear cT1
      have hBtb : Below WTb.heap.size WTb (WTb.alloc (.cells #[.int .i64 0] 3)) := (Below.refl _ WTb).alloc (Nat.le_refl _) _
      have HUb := HTb.below hBtb
      have b9b : Boxed (WTb.alloc (.cells #[.int .i64 0] 3)) WTb.heap.size 3 (.int .i64 (([] : List Rn).length : Nat)) := Boxed.new WTb 3 (.int .i64 0)
      obtain ⟨B9b, hB9b⟩ : ∃ B, B = WTb.heap.size := ⟨_, rfl⟩
      have H9b : Hid (B9b = WTb.heap.size) := hB9b
      obtain ⟨V0b, hV0b⟩ : ∃ V0, V0 = WTb.alloc (.cells #[.int .i64 0] 3) := ⟨_, rfl⟩
      rw [← hV0b] at hBtb HUb b9b ⊢
      rw [← hB9b] at b9b ⊢
      clear hV0b hB9b
      have hstb := runs_stops 5 (by omega) (bt + 1) bt g t (by omega) A B C rA rB rC (fun k _ => k = B9b) WTb V0b (fun k u h => ⟨by rw [h, H9b.out]; exact Nat.le_refl _, .inl (by rw [h]; exact b9b.lt)⟩) HTb.tab HTb.gl HUb.boxS HUb.boxT (fun h => by have := HTb.boxS.lt; have := H9b.out; omega) (KpX.of_below hBtb) ((items 0 (tl t)).length + 1) (by omega)
      rw [← HL.out] at hstb
      refine range_runs 14 rfl h1 (gf := 27) (lb := #[.pointer (some ⟨bt, 0, none⟩), .pointer (some ⟨bt + 1, 0, none⟩)]) rfl trivial (enters_of Tryd.func27 (by kernel_rfl) rfl)
        hstb KpX.trans (fun U o o' h2 h3 h4 => KpX.putObj U _ o o' h2 h3 h4) (Below.refl _ _)
        (fun pre U => Boxed U B9b 3 (.int .i64 (pre.length : Nat)) ∧ Below WTb.heap.size WTb U)
        (fun c pre W => pre <+: L → c = .ret ∧ Boxed W (z + 2) 4 (.bool true) ∧ Below w.heap.size w W ∧ W.heap[Daa]? = some (.deferred (some [])))
        (OwnC.and (ownC_box B9b 3 (fun pre : List Rn => .int .i64 (pre.length : Nat)) b9b.lt) (ownC_below (Nat.le_refl _) hBtb.size))
        (fun _ _ A B row hs hg hr hp => ⟨(hs hp).1, (hs hp).2.1.kept hg (fun e => by have := (hr _ e.symm).1; have := HUb.res.lt; omega), ownC_below (m := 2) (Nat.le_refl _) HUb.bel.size () A B row (hs hp).2.2.1 hg hr, (hg.block Daa (Array.getElem?_eq_some_iff.1 (hs hp).2.2.2).1 (fun e => by have := (hr _ e.symm).1; have := hBtb.size; omega)).trans (hs hp).2.2.2⟩)
        ⟨b9b, hBtb⟩
        ?assign ?body ?done ?stop
      case assign =>
        rintro pre x U K' ⟨c9, hB⟩ hsz hK'
        unfold rnv
        gi_wp2
        exact hK' _ _ ((KeepsOthers.alloc _ _).from _) (KpX.of_below ((Below.refl _ U).alloc (Nat.le_refl _) _)) ⟨c9.alloc _, hB.alloc hB.size _⟩ ⟨U.heap.size, hsz, World.alloc_heap_new U _, rfl⟩
      case body =>
        rintro pre x Bx W ⟨rr, hrr⟩ hBx ⟨c9, hB⟩ hXx hlt
        simp only [actN, List.setIfInBounds_toArray, List.set_cons_succ, List.set_cons_zero]
        have HU2 := HTb.below hB
        have cS := HU2.stop.cell
        have cT : W.cell? ⟨T1, 0, none⟩ = some (.int .i64 1) := HU2.turn.cell
        have cW := HU2.want.cell
        have cN := c9.cell
        have fN := c9.frozen
        have cR := HU2.res.cell
        have fR := HU2.res.frozen
        have x0 := cell_of_block hXx (i := 0)
        have x1 := cell_of_block hXx (i := 1)
        have x2 := cell_of_block hXx (i := 2)
        have x3 := cell_of_block hXx (i := 3)
        unfold cellR at x0 x1 x2 x3
        have hpl : pre.length ≤ 500 := by omega
        clear hXx hrr hstb
        cases hy : L[pre.length]? with
        | none =>
          have hge := List.getElem?_eq_none_iff.1 hy
          have HC : Hid (¬ (pre ++ [x]) <+: L) := fun h => by have := h.length_le; rw [List.length_append, List.length_singleton] at this; omega
          have q0 : decide (L.length ≤ pre.length) = true := decide_eq_true hge
          clear hge hy
          gi_wp2_with fail
          refine wpIn_region_quietR (by kernel_rfl) (by kernel_rfl) (by kernel_rfl) ?_
          repeat (gi_big_quiet_step (fail))
          refine wpQuietIn_nil ?_
          intro _ hw'
          obtain ⟨nq, hw''⟩ := hw'
          subst hw''
          gi_wp2_with fail
          exact ⟨((keepsOthers_drewN W nq).trans (KeepsOthers.setCell _ _ _)).from _, fun hp => absurd hp HC.out⟩
        | some y =>
          obtain ⟨g', hga, r0, r1, r2, r3⟩ := HU2.row _ _ hy
          subst hga
          have hl' := (List.getElem?_eq_some_iff.1 hy).1
          have q0 : decide (L.length ≤ pre.length) = false := decide_eq_false (by omega)
          have HCx : ¬ x = y → ¬ (pre ++ [x]) <+: L := fun hn ⟨r, hr⟩ => by
            rw [← hr, List.append_assoc, List.getElem?_append_right (Nat.le_refl _), Nat.sub_self] at hy
            exact hn (by simpa using hy)
          clear hy
          by_cases e1 : x.kd = y.kd
          · have q1 : ((x.kd : Int) != (y.kd : Int)) = false := by simp; omega
            by_cases e2 : x.frm = y.frm
            · have q2 : ((x.frm : Int) != (y.frm : Int)) = false := by simp; omega
              by_cases e3 : x.too = y.too
              · have q3 : ((x.too : Int) != (y.too : Int)) = false := by simp; omega
                by_cases e4 : x.n = y.n
                · have q4 : ((x.n : Int) != (y.n : Int)) = false := by simp; omega
                  clear e1 e2 e3 e4 HCx
                  by_cases hkk : pre.length = k0
                  · have q5 : ((pre.length : Int) == (k0 : Int)) = true := by simp; omega
                    clear hkk
                    gi_wp2_with fail
                    refine wpIn_region_quietR (by kernel_rfl) (by kernel_rfl) (by kernel_rfl) ?_
                    repeat (gi_big_quiet_step (fail))
                    refine wpQuietIn_nil ?_
                    intro _ hw'
                    obtain ⟨nq, hw''⟩ := hw'
                    subst hw''
                    gi_wp2_with fail
                    refine ⟨trivial, (CallsIn.inRound _ (callsIn_wide.2 (known_any _ (show GL (W.drewN nq) from HU2.gl)))).mono ?_⟩
                    rintro e w5 ⟨rfl, hb5⟩
                    have bR5 := boxed_below' (W := W.drewN nq) HU2.res hb5 HU2.res.lt
                    have cR := bR5.cell
                    have fR := bR5.frozen
                    gi_wp2_with fail
                    refine ⟨(((keepsOthers_drewN W nq).trans (keepsOthers_below hb5)).trans (KeepsOthers.setCell _ _ _)).from _, fun _ => ⟨rfl, bR5.set _, ((below_drewN HU2.bel nq).trans (hb5.mono HU2.bel.size)).setCell (p := ⟨z + 2, 0, none⟩) (show w.heap.size ≤ z + 2 by rw [HZ.out]; omega) _, ?_⟩⟩
                    exact (Below.heap_setCell _ _ _ Daa (fun e => by have e' : Daa = z + 2 := e; omega)).trans ((hb5.block Daa (Nat.lt_of_lt_of_le hDla hB.size)).trans ((hB.block Daa hDla).trans hKa))
                  · have q5 : ((pre.length : Int) == (k0 : Int)) = false := by simp; omega
                    clear hkk
                    gi_wp2_with fail
                    refine wpIn_region_quietR (by kernel_rfl) (by kernel_rfl) (by kernel_rfl) ?_
                    repeat (gi_big_quiet_step (fail))
                    refine wpQuietIn_nil ?_
                    intro _ hw'
                    obtain ⟨nq, hw''⟩ := hw'
                    subst hw''
                    gi_wp2_with fail
                    have bN' : Boxed (W.drewN nq) B9b 3 (.int .i64 (pre.length : Nat)) := c9
                    have hd : Below WTb.heap.size WTb (W.drewN nq) := below_drewN hB nq
                    refine ⟨((keepsOthers_drewN W nq).trans (KeepsOthers.setCell _ _ _)).from _, KpX.setCell (W.drewN nq) B9b 0 _ (fun _ => rfl), ⟨?_, hd.setCell (p := ⟨B9b, 0, none⟩) (by rw [H9b.out]; exact Nat.le_refl _) _⟩⟩
                    have e : ((pre ++ [x]).length : Int) = (pre.length : Int) + 1 := by simp
                    rw [e]
                    exact bN'.set _
                · have q4 : ((x.n : Int) != (y.n : Int)) = true := by simp; omega
                  have HC : Hid (¬ (pre ++ [x]) <+: L) := HCx (fun e => e4 (by rw [e]))
                  clear e1 e2 e3 e4 HCx
                  gi_wp2_with fail
                  refine wpIn_region_quietR (by kernel_rfl) (by kernel_rfl) (by kernel_rfl) ?_
                  repeat (gi_big_quiet_step (fail))
                  refine wpQuietIn_nil ?_
                  intro _ hw'
                  obtain ⟨nq, hw''⟩ := hw'
                  subst hw''
                  gi_wp2_with fail
                  exact ⟨((keepsOthers_drewN W nq).trans (KeepsOthers.setCell _ _ _)).from _, fun hp => absurd hp HC.out⟩
              · have q3 : ((x.too : Int) != (y.too : Int)) = true := by simp; omega
                have HC : Hid (¬ (pre ++ [x]) <+: L) := HCx (fun e => e3 (by rw [e]))
                clear e1 e2 e3 HCx
                gi_wp2_with fail
                refine wpIn_region_quietR (by kernel_rfl) (by kernel_rfl) (by kernel_rfl) ?_
                repeat (gi_big_quiet_step (fail))
                refine wpQuietIn_nil ?_
                intro _ hw'
                obtain ⟨nq, hw''⟩ := hw'
                subst hw''
                gi_wp2_with fail
                exact ⟨((keepsOthers_drewN W nq).trans (KeepsOthers.setCell _ _ _)).from _, fun hp => absurd hp HC.out⟩
            · have q2 : ((x.frm : Int) != (y.frm : Int)) = true := by simp; omega
              have HC : Hid (¬ (pre ++ [x]) <+: L) := HCx (fun e => e2 (by rw [e]))
              clear e1 e2 HCx
              gi_wp2_with fail
              refine wpIn_region_quietR (by kernel_rfl) (by kernel_rfl) (by kernel_rfl) ?_
              repeat (gi_big_quiet_step (fail))
              refine wpQuietIn_nil ?_
              intro _ hw'
              obtain ⟨nq, hw''⟩ := hw'
              subst hw''
              gi_wp2_with fail
              exact ⟨((keepsOthers_drewN W nq).trans (KeepsOthers.setCell _ _ _)).from _, fun hp => absurd hp HC.out⟩
          · have q1 : ((x.kd : Int) != (y.kd : Int)) = true := by simp; omega
            have HC : Hid (¬ (pre ++ [x]) <+: L) := HCx (fun e => e1 (by rw [e]))
            clear  e1 HCx
            gi_wp2_with fail
            refine wpIn_region_quietR (by kernel_rfl) (by kernel_rfl) (by kernel_rfl) ?_
            repeat (gi_big_quiet_step (fail))
            refine wpQuietIn_nil ?_
            intro _ hw'
            obtain ⟨nq, hw''⟩ := hw'
            subst hw''
            gi_wp2_with fail
            exact ⟨((keepsOthers_drewN W nq).trans (KeepsOthers.setCell _ _ _)).from _, fun hp => absurd hp HC.out⟩
      case stop =>
        rintro Dba c pre W hD hp hx hK
        obtain ⟨rfl, q4, BX, d9a⟩ := hx hp
        have d9b := hK
        gi_wp2_with fail
        have hne : Daa ≠ Dba := by
          have := hBtb.size
          omega
        have e1 : (W.putObj Dba (.deferred none)).heap[Daa]? = some (.deferred (some [])) := (World.putObj_heap_other hne).trans d9a
        have c1 := cell_kept q4.cell (grownBy_putObj' W Dba (.deferred none)) (fun r e => by cases e; exact ⟨_, d9b, rfl⟩)
        have c2 := cell_kept c1 (grownBy_putObj' (W.putObj Dba (.deferred none)) Daa (.deferred none)) (fun r e => by cases e; exact ⟨_, e1, rfl⟩)
        have sDb : w.heap.size ≤ Dba := by
          have := hBtb.size
          omega
        have Ba := BX.trans (belowK_b (w := w) (Nat.le_refl _) W Dba _ (.deferred none) sDb d9b rfl rfl)
        have Bb := Ba.trans (belowK_b (w := w) (Nat.le_refl _) _ Daa _ (.deferred none) hwD e1 rfl rfl)
        refine ⟨by simp, .inl ⟨Dba, _, rfl, run_takeDeferred d9b, ?_⟩⟩
        refine ⟨by simp, .inl ⟨Daa, _, rfl, run_takeDeferred e1, ?_⟩⟩
        exact ⟨.bool true, by simp [results, Tryd.results6, go_sem, c2], rfl, Bb⟩
      case done =>
        rintro Dba ys W hD hys ⟨c9, hB⟩ hK
        rw [hys] at c9
        clear hys
        refine inBlock_both (.inl rfl) ?_
        have HU3 := HTb.below hB
        have cW := HU3.want.cell
        have cN := c9.cell
        have cT : W.cell? ⟨T1, 0, none⟩ = some (.int .i64 1) := HU3.turn.cell
        have dn : ((L.length : Int) != (L.length : Int)) = false := by simp
        clear hstb
        gi_wp2_with fail
        have bt2 : Below W.heap.size W (W.alloc (.cells #[.int .i64 2] 3)) := (Below.refl _ _).alloc (Nat.le_refl _) _
        have HV := HU3.below bt2
        have hKb : (W.alloc (.cells #[.int .i64 2] 3)).heap[Dba]? = some (.deferred (some [])) := (bt2.block Dba (Array.getElem?_eq_some_iff.1 hK).1).trans hK
        have hKc : (W.alloc (.cells #[.int .i64 2] 3)).heap[Daa]? = some (.deferred (some [])) := (bt2.block Daa (Nat.lt_of_lt_of_le hDla hB.size)).trans ((hB.block Daa hDla).trans hKa)
        have cE := (Boxed.new W 3 (.int .i64 2)).cell
        obtain ⟨T2, hT2⟩ : ∃ T, T = W.heap.size := ⟨_, rfl⟩
        obtain ⟨WE, hWE⟩ : ∃ V, V = W.alloc (.cells #[.int .i64 2] 3) := ⟨_, rfl⟩
        rw [← hWE] at HV hKb hKc cE ⊢
        rw [← hT2] at cE ⊢
        clear hWE hT2 bt2 HU3 hK hB c9 cW cN cT dn
        rw [roundsIn_succ]
        gi_wp2_with fail
        refine ⟨trivial, (callsIn_wide.2 (known_any _ HV.gl)).mono ?_⟩
        rintro e w9 ⟨rfl, hb9⟩
        have HX := HV.below hb9
        have k4 := HX.res.cell
        have f4 := HX.res.frozen
        gi_wp2_with fail
        have q4 := HX.res.set (.bool true)
        have KO := KeepsOthers.setCell w9 ⟨z + 2, 0, none⟩ (.bool true)
        have d9a := KO.same Daa _ ((hb9.block Daa (Array.getElem?_eq_some_iff.1 hKc).1).trans hKc) rfl
        have d9b := KO.same Dba _ ((hb9.block Dba (Array.getElem?_eq_some_iff.1 hKb).1).trans hKb) rfl
        have BX : Below w.heap.size w (w9.setCell ⟨z + 2, 0, none⟩ (.bool true)) := HX.bel.setCell (p := ⟨z + 2, 0, none⟩) (show w.heap.size ≤ z + 2 by rw [HZ.out]; omega) _
        obtain ⟨WX, hWX⟩ : ∃ WX, WX = w9.setCell ⟨z + 2, 0, none⟩ (.bool true) := ⟨_, rfl⟩
        rw [← hWX] at q4 d9a d9b BX ⊢
        clear hWX KO k4 f4
        have hne : Daa ≠ Dba := by
          have := hBtb.size
          omega
        have e1 : (WX.putObj Dba (.deferred none)).heap[Daa]? = some (.deferred (some [])) := (World.putObj_heap_other hne).trans d9a
        have c1 := cell_kept q4.cell (grownBy_putObj' WX Dba (.deferred none)) (fun r e => by cases e; exact ⟨_, d9b, rfl⟩)
        have c2 := cell_kept c1 (grownBy_putObj' (WX.putObj Dba (.deferred none)) Daa (.deferred none)) (fun r e => by cases e; exact ⟨_, e1, rfl⟩)
        have sDb : w.heap.size ≤ Dba := by
          have := hBtb.size
          omega
        have Ba := BX.trans (belowK_b (w := w) (Nat.le_refl _) WX Dba _ (.deferred none) sDb d9b rfl rfl)
        have Bb := Ba.trans (belowK_b (w := w) (Nat.le_refl _) _ Daa _ (.deferred none) hwD e1 rfl rfl)
        refine ⟨by simp, .inl ⟨Dba, _, rfl, run_takeDeferred d9b, ?_⟩⟩
        refine ⟨by simp, .inl ⟨Daa, _, rfl, run_takeDeferred e1, ?_⟩⟩
        exact ⟨.bool true, by simp [results, Tryd.results6, go_sem, c2], rfl, Bb⟩
  · have hd : decide (y = 0) = false := decide_eq_false h0
    have cR1 := bR1.cell
    have fR1 := bR1.frozen
    clear hA1 hB1 hC1 hD1 hp1 hp2 H2 HRg
    gi_wp2_with fail
    refine ⟨trivial, (callsIn_wide.2 (known_any _ hG1)).mono ?_⟩
    rintro e w2 ⟨rfl, hb2⟩
    have bR2 := boxed_below' bR1 hb2 bR1.lt
    have cR2 := bR2.cell
    have fR2 := bR2.frozen
    gi_wp2_with fail
    have c9 := (bR2.set (.bool true)).cell
    exact ⟨.bool true, by simp [results, Tryd.results6, go_sem, c9], rfl, (B1.trans (hb2.mono B1.size)).setCell (p := ⟨z + 2, 0, none⟩) (show w.heap.size ≤ z + 2 by rw [HZ.out]; omega) _⟩
end Go.Proofs.YtddeamecgbdajaaDoor
