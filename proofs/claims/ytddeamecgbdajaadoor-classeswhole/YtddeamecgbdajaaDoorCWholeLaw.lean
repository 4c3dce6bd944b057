/- ClassesWhole: the walk. -/
import Derived.Test.YtddeamecgbdajaaDoorCRunsLaw
import Derived.Test.YtddeamecgbdajaaDoorCWholeMath
import Derived.Test.YtddeamecgbdajaaDoorUIter
import Derived.Test.YtddeamecgbdajaaDoorItRow
import Derived.Lib.QuietBelowIn
namespace Go.Proofs.YtddeamecgbdajaaDoor
open Go.RowKit Go.Shelf Go.Sort
open Go.Joins
attribute [local go_sem] Oper.semAt_some
variable {F : Fence} {m : Nat} {P : Program} {ops : Array Oper} in
/-- A region that draws, in a round: reads, and calls that make memory. -/
theorem wpIn_region_quietRB {id : Nat} {Q : Exit → Act → World → Prop} {a : Act} {w : World} {l : List Oper} (hnd : noDefer l.toArray = true) (hm : P.follows .mixedOrders = true) (hB : Region.lexB .any l.toArray = true)
    (h : wpQuietIn F m P l.toArray (fun w' => ∃ p : Regrown, w' = grow (redrawn w p.d) p.os) (fun a' => ∀ w', (∃ p : Regrown, w' = grow (redrawn w p.d) p.os) → Q .normal a' w') l a) : (Code.region id l.toArray true).wpIn F m P Q a w := by
  simp only [Region.lexB, Bool.and_eq_true] at hB
  refine wpIn_region_any hm (wpAnyIn_of_quietR (C := fun w' => ∃ p : Regrown, w' = grow (redrawn w p.d) p.os) (Q := fun a' => ∀ w', (∃ p : Regrown, w' = grow (redrawn w p.d) p.os) → Q .normal a' w') hnd (fun _ w' hw' h => h w' hw') _ _ _ _ ⟨⟨w.drawn + 1, #[]⟩, by rw [grow_empty]; rfl⟩ ?_)
  have := wpAnyQIn_lex (F := F) (n := m) (C := fun w' => ∃ p : Regrown, w' = grow (redrawn w p.d) p.os) (md := .any) hB.1 l 0 (Array.replicate l.toArray.size false) a (by simp) (by simpa using hB.2) h
  simpa using this
/-- The activation in which the body of a round over items begins. -/
def actI (a : Act) (p q : Nat) (x : It) (Bx : Nat) : Act := { tmps := (a.tmps.setIfInBounds p (itv x)).setIfInBounds q (.pointer (some ⟨Bx, 0, none⟩)), defers := [] }
theorem range_items {F : Fence} {n : Nat} {P : Program} {g : Operand} {assign body : Code} {Q : Exit → Act → World → Prop} {a : Act} {w : World} {p : Tmp} (q : Nat)
    {l₀ : Nat} {r₀ : Loop} (hro : F.round = some l₀) (hl₀ : w.heap[l₀]? = some (.loop r₀)) (h1 : 1 ≤ n) {gf : Nat} {lb : Array Value} (hg : a.eval g = .func (.func gf) #[] lb) (hFg : F.fn gf) (eg : ∀ args w, (callFunc gf args).run P w = .ok (.enter gf args) w)
    {Kp : World → World → Prop} {S Sp : List It → Prop} {N : Nat} {w0 : World} (hseq : SeqStopsK F (n - 1) P gf lb (fun x : It => #[itv x]) Kp S Sp N w0)
    (hKt : ∀ {A B C : World}, Kp A B → Kp B C → Kp A C) (hKb : ∀ (W : World) (l : Nat) (o o' : Obj), w.heap.size ≤ l → W.heap[l]? = some o → o.isCells = false → o.isWalk = false → Kp W (W.putObj l o')) (hb0 : Below w0.heap.size w0 w)
    (I : List It → World → Prop) (Ix : Code → List It → World → Prop) (hI : OwnFrom w.heap.size I) (hIx : ∀ c, OwnFrom w.heap.size (Ix c)) (h0 : I [] w)
    (hassign : ∀ (l : Nat) (pre : List It) (x : It) (W : World) (K : Act → World → Prop), I pre W → (∀ a' W', KeepsFrom w.heap.size W W' → Kp W W' → I pre W' → (∃ Bx, W.heap.size ≤ Bx ∧ W'.heap[Bx]? = some (.cells (cellI x).toArray 51 (0, 0)) ∧ a' = actI a p q x Bx) → K a' W') →
      assign.wpIn (F.inRound l) (n - 1 - 1) P (Exit.then K (fun _ _ _ => False)) { tmps := ((#[p] : Array Tmp).zip #[itv x]).foldl (fun t (p, v) => t.setIfInBounds p v) a.tmps, defers := [] } W)
    (hbody : ∀ (l : Nat) (pre : List It) (x : It) (Bx : Nat) (W : World), w.heap.size ≤ l → I pre W → W.heap[Bx]? = some (.cells (cellI x).toArray 51 (0, 0)) → pre.length < N → body.wpIn (F.inRound l) (n - 1 - 1) P (ownPostG w.heap.size Kp I Ix (pre ++ [x]) W) (actI a p q x Bx) W)
    (hdone : ∀ (xs : List It) (W : World), S xs → I xs W → Q .normal a W)
    (hstop : ∀ (c : Code) (pre : List It) (W : World), Sp pre → Ix c pre W → c.wpIn F n P Q a W) :
    (Code.rangeFunc g #[p] assign body).wpIn F n P Q a w :=
  wpIn_rangeFunc_ownN hro hl₀ h1 hg hFg eg hseq hKt hKb hb0 (fun _ => rfl) I Ix hI hIx h0
    (fun x a' W => ∃ Bx, W.heap[Bx]? = some (.cells (cellI x).toArray 51 (0, 0)) ∧ a' = actI a p q x Bx)
    (fun x a' _ X Y row hs hg hr => by
      obtain ⟨Bx, h2, h3⟩ := hs
      exact ⟨Bx, (hg.block Bx (Array.getElem?_eq_some_iff.1 h2).1 (fun e => by obtain ⟨_, o, ho, hc⟩ := hr Bx e.symm; rw [h2] at ho; cases ho; cases hc)).trans h2, h3⟩)
    (fun l pre x W K hi hk => hassign l pre x W K hi (fun a' W' h1 h2 h3 ⟨Bx, h4, h5, h6⟩ => hk a' W' h1 h2 h3 ⟨Bx, h5, h6⟩))
    (fun l pre x a' W hl _ hi hax hlt => by obtain ⟨Bx, h2, rfl⟩ := hax; exact hbody l pre x Bx W hl hi h2 hlt) hdone hstop
/-- All that lay there lies there, but block b. -/
def ButOne (b : Nat) (W U : World) : Prop := W.heap.size ≤ U.heap.size ∧ ∀ k, k < W.heap.size → k ≠ b → U.heap[k]? = W.heap[k]?
theorem butOne_own {β : Type} {b B : Nat} {W : World} (hB : W.heap.size ≤ B) : OwnFrom B (fun (_ : β) U => ButOne b W U) := fun _ A B' row hs hg hr =>
  ⟨Nat.le_trans hs.1 hg.size, fun k hk hb => (hg.block k (Nat.lt_of_lt_of_le hk hs.1) (fun e => by have := (hr k e.symm).1; omega)).trans (hs.2 k hk hb)⟩
theorem ButOne.keeps {b : Nat} {W U : World} (h : ButOne b W U) {t : TypeId} {v : Value} (hb : Boxed W b t v) : KeepsOthers W U :=
  ⟨h.1, fun k o hk ho => by
    have hne : k ≠ b := by
      rintro rfl
      rw [show W.heap[k]? = _ from hb] at hk
      cases hk
      cases ho
    exact (h.2 k (Array.getElem?_eq_some_iff.1 hk).1 hne).trans hk⟩
theorem butOne_set {W V : World} (h : Below W.heap.size W V) (b : Nat) (v : Value) : ButOne b W (V.setCell ⟨b, 0, none⟩ v) :=
  ⟨by simpa using h.size, fun k hk hb => (Below.heap_setCell V ⟨b, 0, none⟩ v k (fun e => hb (by simpa using e))).trans (h.block k hk)⟩
theorem KpJ.of_below {Bs : Nat} {A B : World} (h : Below A.heap.size A B) (hb : Bs < A.heap.size) : KpJ Bs A B :=
  ⟨h.size, h.block Bs hb, fun k _ hk _ => h.block k (Array.getElem?_eq_some_iff.1 hk).1⟩
theorem KpJ.setBox {W : World} {B Bs : Nat} {t : TypeId} {v : Value} (v' : Value) (hb : Boxed W B t v) (ht : t ≠ 51) (hne : Bs ≠ B) : KpJ Bs W (W.setCell ⟨B, 0, none⟩ v') :=
  ⟨by simp, Below.heap_setCell _ _ _ Bs hne, fun k c hk _ => Below.heap_setCell _ _ _ k (fun e => by
    have e' : k = B := e
    subst e'
    have := (show W.heap[k]? = _ from hb).symm.trans hk
    injection this with this
    injection this with _ e2 _
    exact ht e2)⟩
theorem SPS.sset {W : World} {B : Nat} {t : TypeId} {v : ByteArray} {a : Option Addr} {l : List Sp} (h : SPS W a l) (hB : Boxed W B t (.string v)) (x : Value) : SPS (W.setCell ⟨B, 0, none⟩ x) a l := by
  rcases h with h | ⟨b, off, rfl, hc⟩
  · exact .inl h
  · exact .inr ⟨b, off, rfl, fun i y hy => ⟨cellSet hB x (hc i y hy).1 (.inl (by simp)), cellSet hB x (hc i y hy).2 (.inl (by simp))⟩⟩
theorem TabAt.sset {W : World} {B : Nat} {t : TypeId} {v : ByteArray} {g : Nat} {A' B' C' : List Sp} (h : TabAt W g A' B' C') (hB : Boxed W B t (.string v)) (x : Value) : TabAt (W.setCell ⟨B, 0, none⟩ x) g A' B' C' := by
  obtain ⟨a, b, c, ca, cb, cc, ⟨h1, h2, h3⟩, h4, h5, h6⟩ := h
  exact ⟨a, b, c, ca, cb, cc, ⟨cellSet hB x h1 (.inl (by simp)), cellSet hB x h2 (.inl (by simp)), cellSet hB x h3 (.inl (by simp))⟩, ⟨h4.le, h4.cap, h4.at'.sset hB x⟩, ⟨h5.le, h5.cap, h5.at'.sset hB x⟩, ⟨h6.le, h6.cap, h6.at'.sset hB x⟩⟩
theorem GL.sset {W : World} {B : Nat} {t : TypeId} {v : ByteArray} (h : GL W) (hB : Boxed W B t (.string v)) (x : Value) : GL (W.setCell ⟨B, 0, none⟩ x) :=
  ⟨⟨cellSet hB x h.1.1 (.inl (by simp)), cellSet hB x h.1.2 (.inl (by simp))⟩, ⟨cellSet hB x h.2.1.1 (.inl (by simp)), cellSet hB x h.2.1.2 (.inl (by simp))⟩, ⟨cellSet hB x h.2.2.1 (.inl (by simp)), cellSet hB x h.2.2.2 (.inl (by simp))⟩⟩
theorem items_nilf : ∀ (wx : World) (lb : Array Value), (binOp BinOp.eql 66 (.func (.func 34) #[] lb) .nilFunc).run Tryd.prog wx = .ok (.bool false) wx := fun wx lb => by kernel_rfl
theorem kindIt_ne (A B C : List Sp) (y : Nat × Bool) : kindIt A B C (y.1 : Nat) y.2 ≠ 0 := by
  unfold kindIt kindOf
  split
  · decide
  · split
    · decide
    · split
      · decide
      · split <;> decide
/-- What a round begins with. -/
structure WholeR (w0 W : World) (z bx : Nat) (bt bs g : Nat) (A B C : List Sp) (t : ByteArray) : Prop where
  str : Boxed W (z + 1) 9 (.string t)
  res : Boxed W (z + 2) 4 (.bool false)
  own : Boxed W bx 22 (.pointer (some ⟨g, 0, none⟩))
  boxT : Boxed W bt 22 (.pointer (some ⟨g, 0, none⟩))
  boxS : Boxed W bs 9 (.string t)
  tab : TabAt W g A B C
  gl : GL W
  bel : Below w0.heap.size w0 W
theorem WholeR.below {w0 W W' : World} {z bx bt bs g : Nat} {A B C : List Sp} {t : ByteArray} (h : WholeR w0 W z bx bt bs g A B C t) (hb : Below W.heap.size W W') : WholeR w0 W' z bx bt bs g A B C t :=
  ⟨boxed_below' h.str hb h.str.lt, boxed_below' h.res hb h.res.lt, boxed_below' h.own hb h.own.lt, boxed_below' h.boxT hb h.boxT.lt, boxed_below' h.boxS hb h.boxS.lt, h.tab.below hb, h.gl.below hb, h.bel.trans (hb.mono h.bel.size)⟩
set_option maxRecDepth 100000 in
set_option maxHeartbeats 16000000 in
theorem whole_walk (s0 s1 a b c : Option Addr) (n0 c0 n1 c1 ca cb cc : Nat) (A B C : List Sp) (s : ByteArray) (w : World) (hA : Lst w a ca A) (hB : Lst w b cb B) (hC : Lst w c cc C) (hG : GL w) :
    Calls Tryd.prog 7 #[dtV (.slice s0 n0 c0) (.slice s1 n1 c1) a b c A.length ca B.length cb C.length cc, .string s] w fun e w' => e = .returned (.bool true) ∧ Below w.heap.size w w' := by
  refine (callsIn_wide (n := 6)).1 ?_
  have h1 : 1 ≤ 6 := by omega
  have H1 := fun (wx : World) (h1 : Lst wx a ca A) (h2 : Lst wx b cb B) (h3 : Lst wx c cc C) (hg : GL wx) => lawRight_any s0 s1 a b c n0 c0 n1 c1 ca cb cc A B C wx h1 h2 h3 hg
  have hRg : (checkA A B C).1 = 0 → Rgt A ∧ Rgt B ∧ Rgt C := fun h => (check_pass h).1.rgt (by omega)
  have hnf := runs_nil
  have hni := items_nilf
  obtain ⟨y, hy⟩ : ∃ y, y = (checkA A B C).1 := ⟨_, rfl⟩
  rw [← hy] at hRg
  simp only [← hy] at H1
  have HRg : Hid (y = 0 → Rgt A ∧ Rgt B ∧ Rgt C) := hRg
  clear hy hRg
  unfold dtV at H1 ⊢
  obtain ⟨V0, hV0⟩ : ∃ V0, V0 = ((w.alloc (.cells #[.slice s0 n0 c0, .slice s1 n1 c1, .slice a A.length ca, .slice b B.length cb, .slice c C.length cc] 47)).alloc (.cells #[.string s] 9)).alloc (.cells #[.bool false] 4) := ⟨_, rfl⟩
  have b0 : Below w.heap.size w V0 := by rw [hV0]; exact (((Below.refl _ w).alloc (Nat.le_refl _) _).alloc (by simp) _).alloc (by simp; omega) _
  have z0 : V0.heap.size = w.heap.size + 3 := by rw [hV0]; simp
  have hD0 : V0.heap[w.heap.size]? = some (.cells #[.slice s0 n0 c0, .slice s1 n1 c1, .slice a A.length ca, .slice b B.length cb, .slice c C.length cc] 47 (0, 0)) := by
    rw [hV0]
    refine ((((Below.refl _ _).alloc (Nat.le_refl _) _).alloc (by simp) _).block w.heap.size (by simp)).trans (heap_alloc_new w _)
  have bS0 : Boxed V0 (w.heap.size + 1) 9 (.string s) := by
    have := (Boxed.new (w.alloc (.cells #[.slice s0 n0 c0, .slice s1 n1 c1, .slice a A.length ca, .slice b B.length cb, .slice c C.length cc] 47)) 9 (.string s)).alloc (.cells #[.bool false] 4)
    rw [World.size_alloc] at this
    rw [hV0]; exact this
  have bR0 : Boxed V0 (w.heap.size + 2) 4 (.bool false) := by
    have := Boxed.new ((w.alloc (.cells #[.slice s0 n0 c0, .slice s1 n1 c1, .slice a A.length ca, .slice b B.length cb, .slice c C.length cc] 47)).alloc (.cells #[.string s] 9)) 4 (.bool false)
    rw [World.size_alloc, World.size_alloc] at this
    rw [hV0]; exact this
  have hA0 := hA.below b0
  have hB0 := hB.below b0
  have hC0 := hC.below b0
  have hG0 := hG.below b0
  refine callsIn_of_wp_marks Tryd.func7 rfl trivial ?_ rfl
  simp only [Tryd.ntmps7, List.size_toArray, List.length_cons, List.length_nil, Nat.reduceAdd, Nat.reduceSub, Array.replicate_succ, Array.replicate_zero, List.push_toArray, List.append_toArray, List.nil_append, List.cons_append]
  gi_wp2_with fail
  rw [← hV0]
  clear hV0 hA hB hC hG
  obtain ⟨z, hz⟩ : ∃ z, z = w.heap.size := ⟨_, rfl⟩
  have HZ : Hid (z = w.heap.size) := hz
  have ez : w.heap.size + 1 + 1 = w.heap.size + 2 := rfl
  simp only [ez]
  rw [← hz] at hD0 bS0 bR0 z0 ⊢
  clear ez hz
  refine ⟨trivial, (callsIn_wide.2 (H1 _ hA0 hB0 hC0 hG0)).mono ?_⟩
  rintro e w1 ⟨p, rfl, hp1, hp2, hb1⟩
  have hG1 := hG0.below hb1
  have hs1 := hb1.size
  have bS1 := boxed_below' bS0 hb1 bS0.lt
  have bR1 := boxed_below' bR0 hb1 bR0.lt
  have B1 := b0.trans (hb1.mono b0.size)
  clear H1 hA0 hB0 hC0 hG0 hD0 bS0 bR0 hb1 b0
  by_cases h0 : y = 0
  · obtain ⟨g, rfl, hO⟩ := hp1 h0
    obtain ⟨rA, rB, rC⟩ := HRg.out h0
    have hT1 := hO.tab
    have hd : decide (y = 0) = true := decide_eq_true h0
    clear hp1 hp2 hO h0 HRg
    have b2 : Below w1.heap.size w1 (w1.alloc (.cells #[.pointer (some ⟨g, 0, none⟩)] 22)) := (Below.refl _ _).alloc (Nat.le_refl _) _
    have bX2 := Boxed.new w1 22 (.pointer (some ⟨g, 0, none⟩))
    have hT2 := hT1.below b2
    have hG2 := hG1.below b2
    have bS2 := boxed_below' bS1 b2 bS1.lt
    have bR2 := boxed_below' bR1 b2 bR1.lt
    have B2 := B1.trans (b2.mono B1.size)
    have cS2 := fun o => cell_alloc_s bS1.cell o
    clear hT1 hG1 bS1 bR1 B1 b2
    gi_wp2_with fail
    obtain ⟨W2, hW2⟩ : ∃ W2, W2 = w1.alloc (.cells #[.pointer (some ⟨g, 0, none⟩)] 22) := ⟨_, rfl⟩
    obtain ⟨bx, hbx⟩ : ∃ bx, bx = w1.heap.size := ⟨_, rfl⟩
    rw [← hW2] at hT2 hG2 bS2 bR2 B2 bX2 ⊢
    rw [← hbx] at bX2 ⊢
    have hs2 : z + 2 < bx := by omega
    clear hW2 hbx cS2
    refine ⟨trivial, (callsIn_wide.2 (few_any s _)).mono ?_⟩
    rintro e w3 ⟨rfl, he⟩
    obtain rfl := he.symm
    have hsz500 := fewS_size s
    generalize fewS s = t at *
    have hL0 : (items 0 (tl t)).length ≤ 500 := by
      have := items_length (tl t) 0
      rw [tl_len] at this
      omega
    have fS2 := bS2.frozen
    have cS2 := bS2.cell
    have bS3 := bS2.set (.string t)
    have bR3 := bR2.other (B' := z + 1) (by omega) (.string t)
    have bX3 := bX2.other (B' := z + 1) (by omega) (.string t)
    have hT3 := hT2.sset bS2 (.string t)
    have hG3 := hG2.sset bS2 (.string t)
    have B3 := B2.setCell (p := ⟨z + 1, 0, none⟩) (show w.heap.size ≤ z + 1 by rw [HZ.out]; omega) (.string t)
    have cS3 := bS3.cell
    have cX3 := bX3.cell
    clear hT2 hG2 bS2 bR2 bX2 B2
    gi_wp2_with fail
    obtain ⟨W3, hW3⟩ : ∃ W3, W3 = W2.setCell ⟨z + 1, 0, none⟩ (.string t) := ⟨_, rfl⟩
    rw [← hW3] at bS3 bR3 bX3 hT3 hG3 B3 ⊢
    clear hW3 cS3 cX3 cS2 fS2
    refine ⟨trivial, (runs_in _ g t _).mono ?_⟩
    rintro e w5 ⟨rfl, hw5⟩
    have bT5 : Boxed w5 W3.heap.size 22 (.pointer (some ⟨g, 0, none⟩)) := by rw [hw5]; exact (Boxed.new W3 _ _).alloc _
    have bS5 : Boxed w5 (W3.heap.size + 1) 9 (.string t) := by
      have := Boxed.new (W3.alloc (.cells #[.pointer (some ⟨g, 0, none⟩)] 22)) 9 (.string t)
      rw [World.size_alloc] at this
      rw [hw5]; exact this
    have b35 : Below W3.heap.size W3 w5 := by rw [hw5]; exact ((Below.refl _ _).alloc (Nat.le_refl _) _).alloc (by simp) _
    obtain ⟨bt, hbt⟩ : ∃ bt, bt = W3.heap.size := ⟨_, rfl⟩
    rw [← hbt] at bT5 bS5 ⊢
    have HT : WholeR w w5 z bx bt (bt + 1) g A B C t := ⟨boxed_below' bS3 b35 bS3.lt, boxed_below' bR3 b35 bR3.lt, boxed_below' bX3 b35 bX3.lt, bT5, bS5, hT3.below b35, hG3.below b35, B3.trans (b35.mono B3.size)⟩
    clear hw5 hbt b35 bT5 bS5 bS3 bR3 bX3 hT3 hG3 B3
    gi_wp2_with fail
    have hBt : Below w5.heap.size w5 ((w5.alloc (.cells #[.int .i64 0] 3)).alloc (.cells #[.int .i64 0] 3)) := ((Below.refl _ _).alloc (Nat.le_refl _) _).alloc (by simp) _
    have bE : Boxed ((w5.alloc (.cells #[.int .i64 0] 3)).alloc (.cells #[.int .i64 0] 3)) w5.heap.size 3 (.int .i64 (endR [] : Nat)) := (Boxed.new w5 3 (.int .i64 0)).alloc _
    have bF : Boxed ((w5.alloc (.cells #[.int .i64 0] 3)).alloc (.cells #[.int .i64 0] 3)) (w5.heap.size + 1) 3 (.int .i64 (lastK [] : Nat)) := by
      have := Boxed.new (w5.alloc (.cells #[.int .i64 0] 3)) 3 (.int .i64 0)
      rw [World.size_alloc] at this
      exact this
    have HU := HT.below hBt
    obtain ⟨E, hE⟩ : ∃ E, E = w5.heap.size := ⟨_, rfl⟩
    have HE : Hid (E = w5.heap.size) := hE
    obtain ⟨W0, hW0⟩ : ∃ V, V = (w5.alloc (.cells #[.int .i64 0] 3)).alloc (.cells #[.int .i64 0] 3) := ⟨_, rfl⟩
    rw [← hW0] at hBt bE bF HU ⊢
    rw [← hE] at bE bF ⊢
    clear hW0 hE
    have hst := runs_stops 5 (by omega) (bt + 1) bt g t (by omega) A B C rA rB rC (fun k _ => k = E ∨ k = E + 1) w5 W0 (fun k u h => by
      rcases h with h | h
      · exact ⟨by rw [h, HE.out]; exact Nat.le_refl _, .inl (by rw [h]; exact bE.lt)⟩
      · exact ⟨by rw [h, HE.out]; omega, .inl (by rw [h]; exact bF.lt)⟩) HT.tab HT.gl HU.boxS HU.boxT (fun h => by have := HT.boxS.lt; have := HE.out; omega) (KpX.of_below hBt) ((items 0 (tl t)).length + 1) (by omega)
    obtain ⟨L, hL⟩ : ∃ L, L = runsL (kindsL A B C (items 0 (tl t))) t.size := ⟨_, rfl⟩
    rw [← hL] at hst
    have HGd : Hid (∀ pre x, pre ++ [x] <+: L → RunGood (fun y => kindIt A B C (y.1 : Nat) y.2) (tl t) pre x) := fun pre x h => runs_good (fun y => kindIt A B C (y.1 : Nat) y.2) (kindIt_ne A B C) (tl t) (by rw [tl_len]; rw [hL] at h; exact h)
    have HEnd : Hid (endR L = t.size) := by
      have := (runs_past (fun y => kindIt A B C (y.rune : Nat) y.bad) (fun y => kindIt_ne A B C (y.rune, y.bad)) (tl t)).2
      rw [tl_len] at this
      rw [hL]
      exact this
    clear hL
    refine range_runs 11 rfl h1 (gf := 27) (lb := #[.pointer (some ⟨bt, 0, none⟩), .pointer (some ⟨bt + 1, 0, none⟩)]) rfl trivial (enters_of Tryd.func27 (by kernel_rfl) rfl)
      hst KpX.trans (fun U o o' h2 h3 h4 => KpX.putObj U _ o o' h2 h3 h4) (Below.refl _ _)
      (fun pre U => Boxed U E 3 (.int .i64 (endR pre : Nat)) ∧ Boxed U (E + 1) 3 (.int .i64 (lastK pre : Nat)) ∧ Below w5.heap.size w5 U)
      (fun _ pre _ => ¬ pre <+: L)
      (OwnC.and (ownC_box E 3 (fun pre : List Rn => .int .i64 (endR pre : Nat)) bE.lt) (OwnC.and (ownC_box (E + 1) 3 (fun pre : List Rn => .int .i64 (lastK pre : Nat)) bF.lt) (ownC_below (Nat.le_refl _) hBt.size)))
      (fun _ => ownC_pure _ _ (fun pre : List Rn => ¬ pre <+: L))
      ⟨bE, bF, hBt⟩
      ?assign ?body ?done ?stop
    case assign =>
      rintro pre x U K' ⟨cE, cF, hB⟩ hsz hK'
      unfold rnv
      gi_wp2
      exact hK' _ _ ((KeepsOthers.alloc _ _).from _) (KpX.of_below ((Below.refl _ U).alloc (Nat.le_refl _) _)) ⟨cE.alloc _, cF.alloc _, hB.alloc hB.size _⟩ ⟨U.heap.size, hsz, World.alloc_heap_new U _, rfl⟩
    case body =>
      rintro pre x Bx W ⟨rr, hrr⟩ hBx ⟨cE, cF, hB⟩ hXx hlt
      simp only [actN, List.setIfInBounds_toArray, List.set_cons_succ, List.set_cons_zero]
      have HU2 := HT.below hB
      have kS := HU2.str.cell
      have kE := cE.cell
      have kF := cF.cell
      have kR := HU2.res.cell
      have fR := HU2.res.frozen
      have x0 := cell_of_block hXx (i := 0)
      have x1 := cell_of_block hXx (i := 1)
      have x2 := cell_of_block hXx (i := 2)
      have x3 := cell_of_block hXx (i := 3)
      unfold cellR at x0 x1 x2 x3
      have hpl : pre.length ≤ 500 := by omega
      clear hst
      by_cases e1 : x.frm = endR pre
      · have q1 : ((x.frm : Int) != (endR pre : Int)) = false := by simp; omega
        by_cases e2 : x.too ≤ x.frm
        · have q2 : decide (x.too ≤ x.frm) = true := decide_eq_true e2
          have HN : Hid (¬ (pre ++ [x]) <+: L) := fun h => by have := (HGd.out _ _ h).lt; omega
          clear e1 e2
          gi_wp2_with fail
          exact ⟨(KeepsOthers.setCell W ⟨z + 2, 0, none⟩ (.bool false)).from _, HN.out⟩
        · have q2 : decide (x.too ≤ x.frm) = false := decide_eq_false e2
          by_cases e3 : t.size < x.too
          · have q3 : decide (t.size < x.too) = true := decide_eq_true e3
            have HN : Hid (¬ (pre ++ [x]) <+: L) := fun h => by have := (HGd.out _ _ h).le; rw [tl_len] at this; omega
            clear e1 e2 e3
            gi_wp2_with fail
            exact ⟨(KeepsOthers.setCell W ⟨z + 2, 0, none⟩ (.bool false)).from _, HN.out⟩
          · have q3 : decide (t.size < x.too) = false := decide_eq_false e3
            by_cases e4 : x.kd = lastK pre
            · have q4 : ((x.kd : Int) == (lastK pre : Int)) = true := by simp; omega
              have HN : Hid (¬ (pre ++ [x]) <+: L) := fun h => (HGd.out _ _ h).kd e4
              clear e1 e2 e3 e4
              gi_wp2_with fail
              exact ⟨(KeepsOthers.setCell W ⟨z + 2, 0, none⟩ (.bool false)).from _, HN.out⟩
            · have q4 : ((x.kd : Int) == (lastK pre : Int)) = false := by simp; omega
              have hle1 : x.frm ≤ x.too := by omega
              have hle2 : x.too ≤ t.size := by omega
              clear e1 e2 e3 e4
              have aS := fun o => cell_alloc_s kS o
              have a1 := fun o => cell_alloc_s x1 o
              have a2 := fun o => cell_alloc_s x2 o
              gi_wp2_with fail
              obtain ⟨W1, hW1⟩ : ∃ V, V = W.alloc (.cells #[.int .i64 0] 3) := ⟨_, rfl⟩
              obtain ⟨u, hu⟩ : ∃ u, u = t.extract x.frm x.too := ⟨_, rfl⟩
              have hut : tl u = ((tl t).drop x.frm).take (x.too - x.frm) := by rw [hu, tl_extract]
              have hus : u.size ≤ 500 := by
                have := congrArg List.length hut
                rw [tl_len, List.length_take, List.length_drop, tl_len] at this
                omega
              have HGi : Hid (pre ++ [x] <+: L → (items 0 (tl u)).length = x.n ∧ ∀ it ∈ items 0 (tl u), kindIt A B C (it.rune : Nat) it.bad = x.kd) := fun h => by
                have hg := HGd.out _ _ h
                rw [hut]
                exact ⟨hg.n, hg.all⟩
              have bN1 : Boxed W1 W.heap.size 3 (.int .i64 (([] : List It).length : Nat)) := by rw [hW1]; exact Boxed.new W 3 (.int .i64 0)
              have b01 : Below W.heap.size W W1 := by rw [hW1]; exact (Below.refl _ _).alloc (Nat.le_refl _) _
              have z1 : W1.heap.size = W.heap.size + 1 := by rw [hW1]; simp
              obtain ⟨Nb, hNb⟩ : ∃ k, k = W.heap.size := ⟨_, rfl⟩
              have HNb : Hid (Nb = W.heap.size) := hNb
              rw [← hW1, ← hu, ← hNb]
              rw [← hNb] at bN1
              have z1' : Nb < W1.heap.size := by omega
              clear hW1 hu hut aS a1 a2 kE kF kR fR q1 q2 q3 q4 z1 hNb
              refine ⟨trivial, (CallsIn.inRound _ (items_in _ u _)).mono ?_⟩
              rintro e W2 ⟨rfl, hW2⟩
              have bU2 : Boxed W2 W1.heap.size 9 (.string u) := by rw [hW2]; exact Boxed.new W1 9 (.string u)
              have b12 : Below W1.heap.size W1 W2 := by rw [hW2]; exact (Below.refl _ _).alloc (Nat.le_refl _) _
              have bN2 := boxed_below' bN1 b12 bN1.lt
              have B2 := b01.trans (b12.mono b01.size)
              obtain ⟨Ub, hUb⟩ : ∃ k, k = W1.heap.size := ⟨_, rfl⟩
              rw [← hUb] at bU2 z1' ⊢
              clear hW2 b12 bN1 b01 hUb
              have hl0 := (B2.block _ (Array.getElem?_eq_some_iff.1 hrr).1).trans hrr
              gi_wp2_with fail
              refine range_items 14 rfl hl0 (by omega) (gf := 34) (lb := #[.pointer (some ⟨Ub, 0, none⟩)]) rfl trivial (enters_of Tryd.func34 (by kernel_rfl) rfl)
                ((items_stops 3 (by omega) Ub u (by omega) W2 bU2.cell).inRound _) KpJ.trans (KpJ.putObj bU2.lt) (Below.refl _ _)
                (fun pre' U => Boxed U Nb 3 (.int .i64 (pre'.length : Nat)) ∧ Boxed U Ub 9 (.string u) ∧ Below W.heap.size W U)
                (fun c pre' U => c = .ret ∧ (pre' <+: items 0 (tl u) → ¬ (pre ++ [x]) <+: L) ∧ ButOne (z + 2) W U)
                (OwnFrom.and (Own.from (boxed_own Nb 3 (fun pre : List It => .int .i64 (pre.length : Nat))) _) (OwnFrom.and (Own.from (boxed_own Ub 9 (fun _ : List It => .string u)) _) (ownFrom_below (Nat.le_refl _) B2.size)))
                (fun c => OwnFrom.and (ownFrom_pure _ (fun _ : List It => c = .ret)) (OwnFrom.and (ownFrom_pure _ (fun pre' : List It => pre' <+: items 0 (tl u) → ¬ (pre ++ [x]) <+: L)) (butOne_own B2.size)))
                ⟨bN2, bU2, B2⟩
                ?iassign ?ibody ?idone ?istop
              case iassign =>
                rintro l pre' i U K' ⟨cN, cU, hB'⟩ hK'
                unfold itv
                gi_wp2
                exact hK' _ _ ((KeepsOthers.alloc _ _).from _) (KpJ.of_below ((Below.refl _ U).alloc (Nat.le_refl _) _) cU.lt) ⟨cN.alloc _, cU.alloc _, hB'.alloc hB'.size _⟩ ⟨U.heap.size, Nat.le_refl _, World.alloc_heap_new U _, rfl⟩
              case ibody =>
                rintro l pre' i Bi U hl ⟨cN, cU, hB'⟩ hXi hlt'
                simp only [actI, List.setIfInBounds_toArray, List.set_cons_succ, List.set_cons_zero]
                have hpl' : pre'.length ≤ 500 := by
                  have := items_length (tl u) 0
                  rw [tl_len] at this
                  omega
                have HU3 := HU2.below hB'
                have i0 := cell_of_block hXi (i := 0)
                have i1 := cell_of_block hXi (i := 1)
                have i2 := cell_of_block hXi (i := 2)
                have i3 := cell_of_block hXi (i := 3)
                unfold cellI at i0 i1 i2 i3
                have y0 := (hB'.cell (World.block_lt_of_cell? W _ x0)).trans x0
                obtain ⟨k, hk⟩ : ∃ k, k = kindIt A B C (i.rune : Nat) i.bad := ⟨_, rfl⟩
                have HK := fun (d : Nat) (os : Array Obj) => kind_any g A B C (i.frm : Nat) (i.bytes : Nat) (i.rune : Nat) i.bad (Go.Sort.grow (redrawn U d) os) (HU3.tab.below (below_regrown U d os)) rA rB rC (HU3.gl.below (below_regrown U d os))
                rw [← hk] at HK
                have HKi : Hid (k = kindIt A B C (i.rune : Nat) i.bad) := hk
                have kx := cell_regrown HU3.own.cell
                have j0 := cell_regrown i0
                have j1 := cell_regrown i1
                have j2 := cell_regrown i2
                have j3 := cell_regrown i3
                have jy := cell_regrown y0
                clear hXi hk i0 i1 i2 i3 y0 x0 x1 x2 x3 kS
                by_cases ek : k = x.kd
                · have qk : ((k : Int) != (x.kd : Int)) = false := by simp; omega
                  clear ek
                  gi_wp2_with fail
                  refine wpIn_region_quietRB (by kernel_rfl) (by kernel_rfl) (by kernel_rfl) ?_
                  repeat (gi_big_quiet_step (fail))
                  refine wpQuietIn_step (fun _ _ _ _ => trivial) (fun K hK => ?_)
                  go_simp
                  apply Exists.intro
                  refine ⟨fun _ => ?_, hK _ ?_⟩
                  · exact CallsIn.regrown_of (CallsIn.inRound l (callsIn_wide.2 (HK _ _)))
                  clear hK K
                  repeat (gi_big_quiet_step (fail))
                  refine wpQuietIn_nil ?_
                  intro W5 hw'
                  have hb5 : Below U.heap.size U W5 := by
                    obtain ⟨⟨dq, osq⟩, rfl⟩ := hw'
                    exact below_regrown _ _ _
                  clear hw'
                  have cN5 := boxed_below' cN hb5 cN.lt
                  have cU5 := boxed_below' cU hb5 cU.lt
                  have kN := cN5.cell
                  have fN := cN5.frozen
                  clear kx j0 j1 j2 j3 jy HK qk
                  gi_wp2_with fail
                  refine ⟨((keepsOthers_below hb5).trans (KeepsOthers.setCell _ _ _)).from _, (KpJ.of_below hb5 cU.lt).trans (KpJ.setBox _ cN5 (by decide) (by omega)), ⟨?_, cU5.other (by omega) _, (hB'.trans (hb5.mono hB'.size)).setCell (p := ⟨Nb, 0, none⟩) (by rw [HNb.out]; exact Nat.le_refl _) _⟩⟩
                  have e : ((pre' ++ [i]).length : Int) = (pre'.length : Int) + 1 := by simp
                  rw [e]
                  exact cN5.set _
                · have qk : ((k : Int) != (x.kd : Int)) = true := by simp; omega
                  have HN : Hid (pre' ++ [i] <+: items 0 (tl u) → ¬ (pre ++ [x]) <+: L) := fun hp hL => ek (HKi.out.trans ((HGi.out hL).2 i (hp.subset (by simp))))
                  clear ek
                  gi_wp2_with fail
                  refine wpIn_region_quietRB (by kernel_rfl) (by kernel_rfl) (by kernel_rfl) ?_
                  repeat (gi_big_quiet_step (fail))
                  refine wpQuietIn_step (fun _ _ _ _ => trivial) (fun K hK => ?_)
                  go_simp
                  apply Exists.intro
                  refine ⟨fun _ => ?_, hK _ ?_⟩
                  · exact CallsIn.regrown_of (CallsIn.inRound l (callsIn_wide.2 (HK _ _)))
                  clear hK K
                  repeat (gi_big_quiet_step (fail))
                  refine wpQuietIn_nil ?_
                  intro W5 hw'
                  have hb5 : Below U.heap.size U W5 := by
                    obtain ⟨⟨dq, osq⟩, rfl⟩ := hw'
                    exact below_regrown _ _ _
                  clear hw'
                  have cR5 := boxed_below' HU3.res hb5 HU3.res.lt
                  have kR := cR5.cell
                  have fR := cR5.frozen
                  clear kx j0 j1 j2 j3 jy HK qk
                  gi_wp2_with fail
                  exact ⟨((keepsOthers_below hb5).trans (KeepsOthers.setCell _ _ _)).from _, rfl, HN.out, butOne_set (hB'.trans (hb5.mono hB'.size)) (z + 2) _⟩
              case idone =>
                rintro ys U hys ⟨cN, cU, hB'⟩
                rw [hys] at cN
                clear hys
                refine inBlock_both (.inl rfl) ?_
                have HU3 := HU2.below hB'
                have cE3 := boxed_below' cE hB' cE.lt
                have cF3 := boxed_below' cF hB' cF.lt
                have y0 := (hB'.cell (World.block_lt_of_cell? W _ x0)).trans x0
                have y2 := (hB'.cell (World.block_lt_of_cell? W _ x2)).trans x2
                have y3 := (hB'.cell (World.block_lt_of_cell? W _ x3)).trans x3
                clear x0 x1 x2 x3 kS
                obtain ⟨nn, hnn⟩ : ∃ k, k = (items 0 (tl u)).length := ⟨_, rfl⟩
                rw [← hnn] at cN
                have HNn : Hid (nn = (items 0 (tl u)).length) := hnn
                clear hnn
                have kN := cN.cell
                by_cases en : nn = x.n
                · have qn : ((nn : Int) != (x.n : Int)) = false := by simp; omega
                  clear en
                  have kE := cE3.cell
                  have fE := cE3.frozen
                  have v0 := cellSet cE3 (.int .i64 (x.too : Nat)) y0 (.inr (by have := bF.lt; omega))
                  have cF4 := cF3.other (B' := E) (by omega) (.int .i64 (x.too : Nat))
                  have kF := cF4.cell
                  have fF := cF4.frozen
                  gi_wp2_with fail
                  refine ⟨((keepsOthers_below hB').trans ((KeepsOthers.setCell _ _ _).trans (KeepsOthers.setCell _ _ _))).from _, (KpX.of_below hB').trans ((KpX.setCell _ E 0 _ (fun _ => .inl rfl)).trans (KpX.setCell _ (E + 1) 0 _ (fun _ => .inr rfl))), ⟨?_, ?_, ?_⟩⟩
                  · rw [endR_snoc]
                    exact (cE3.set _).other (by omega) _
                  · rw [lastK_snoc]
                    exact cF4.set _
                  · exact ((hB.trans (hB'.mono hB.size)).setCell (p := ⟨E, 0, none⟩) (show w5.heap.size ≤ E by rw [HE.out]; exact Nat.le_refl _) _).setCell (p := ⟨E + 1, 0, none⟩) (show w5.heap.size ≤ E + 1 by rw [HE.out]; omega) _
                · have qn : ((nn : Int) != (x.n : Int)) = true := by simp; omega
                  have HN : Hid (¬ (pre ++ [x]) <+: L) := fun h => en (HNn.out.trans (HGi.out h).1)
                  clear en
                  have kR := HU3.res.cell
                  have fR := HU3.res.frozen
                  gi_wp2_with fail
                  exact ⟨((keepsOthers_below hB').trans (KeepsOthers.setCell _ _ _)).from _, HN.out⟩
              case istop =>
                rintro c pre' U hp ⟨rfl, hx1, hx2⟩
                gi_wp2_with fail
                exact ⟨(hx2.keeps HU2.res).from _, hx1 hp⟩
      · have q1 : ((x.frm : Int) != (endR pre : Int)) = true := by simp; omega
        have HN : Hid (¬ (pre ++ [x]) <+: L) := fun h => e1 (HGd.out _ _ h).frm
        clear e1
        gi_wp2_with fail
        exact ⟨(KeepsOthers.setCell W ⟨z + 2, 0, none⟩ (.bool false)).from _, HN.out⟩
    case done =>
      rintro D ys U hD hys ⟨cE, cF, hB⟩ hDk
      rw [hys, HEnd.out] at cE
      clear hys cF
      refine inBlock_both (.inl rfl) ?_
      have HU2 := HT.below hB
      have kE := cE.cell
      have kS := HU2.str.cell
      have dE : ((t.size : Int) == (t.size : Int)) = true := by simp
      clear hst
      gi_wp2_with fail
      refine ⟨trivial, (callsIn_wide.2 (known_any _ HU2.gl)).mono ?_⟩
      rintro e w9 ⟨rfl, hb9⟩
      have HX := HU2.below hb9
      have k4 := HX.res.cell
      have f4 := HX.res.frozen
      clear kE kS dE
      gi_wp2_with fail
      have q4 := HX.res.set (.bool true)
      have KO := KeepsOthers.setCell w9 ⟨z + 2, 0, none⟩ (.bool true)
      have d9 := KO.same D _ ((hb9.block D (Array.getElem?_eq_some_iff.1 hDk).1).trans hDk) rfl
      have BX : Below w.heap.size w (w9.setCell ⟨z + 2, 0, none⟩ (.bool true)) := HX.bel.setCell (p := ⟨z + 2, 0, none⟩) (show w.heap.size ≤ z + 2 by rw [HZ.out]; omega) _
      obtain ⟨WX, hWX⟩ : ∃ WX, WX = w9.setCell ⟨z + 2, 0, none⟩ (.bool true) := ⟨_, rfl⟩
      rw [← hWX] at q4 d9 BX ⊢
      clear hWX KO k4 f4
      have c1 := cell_kept q4.cell (grownBy_putObj' WX D (.deferred none)) (fun r e => by cases e; exact ⟨_, d9, rfl⟩)
      have sD : w.heap.size ≤ D := by
        have := hBt.size
        have := HT.bel.size
        omega
      have Ba := BX.trans (belowK_b (w := w) (Nat.le_refl _) WX D _ (.deferred none) sD d9 rfl rfl)
      refine ⟨by simp, .inl ⟨D, _, rfl, run_takeDeferred d9, ?_⟩⟩
      exact ⟨.bool true, by simp [results, Tryd.results7, go_sem, c1], rfl, Ba⟩
    case stop =>
      rintro D c pre U hD hp hx _
      exact absurd hp hx
  · have hd : decide (y = 0) = false := decide_eq_false h0
    have cR1 := bR1.cell
    have fR1 := bR1.frozen
    clear hp1 hp2 HRg
    gi_wp2_with fail
    refine ⟨trivial, (callsIn_wide.2 (known_any _ (hG1.below ((Below.refl _ _).alloc (Nat.le_refl _) _)))).mono ?_⟩
    rintro e w2 ⟨rfl, hb2⟩
    have bR2 := boxed_below' (bR1.alloc _) hb2 (bR1.alloc _).lt
    have cR2 := bR2.cell
    have fR2 := bR2.frozen
    gi_wp2_with fail
    have c9 := (bR2.set (.bool true)).cell
    exact ⟨.bool true, by simp [results, Tryd.results7, go_sem, c9], rfl, ((B1.alloc B1.size _).trans (hb2.mono (B1.alloc B1.size _).size)).setCell (p := ⟨z + 2, 0, none⟩) (show w.heap.size ≤ z + 2 by rw [HZ.out]; omega) _⟩
end Go.Proofs.YtddeamecgbdajaaDoor
