/- tesseralaw9.all: its contract. -/
import Derived.Test.YtlmbkhpbfmkmjaaCHIter
namespace Go.Proofs.Ytlmbkhpbfmkmjaa.CH
open Go.RowKit Go.Shelf
open Go.Joins Go.Sort
attribute [local go_sem] Oper.semAt_some
set_option linter.unusedVariables false
set_option linter.unusedSimpArgs false
theorem keepsOthers_below {W W' : World} (h : Below W.heap.size W W') : KeepsOthers W W' := ⟨h.size, fun k _ hk _ => (h.block k (Array.getElem?_eq_some_iff.1 hk).1).trans hk⟩
theorem keepsOthers_refl (W : World) : KeepsOthers W W := ⟨Nat.le_refl _, fun _ _ h _ => h⟩
theorem boxed_below {W W' : World} {B B' : Nat} {t : TypeId} {v : Value} (h : Boxed W B t v) (hb : Below B' W W') (hB : B < B') : Boxed W' B t v := (hb.block B hB).trans h
/-- A row of bools: which numbers stand. -/
def BlAt (w : World) (b n : Nat) (inn : Nat → Bool) : Prop :=
  ∃ arr : Array Value, w.heap[b]? = some (.cells arr 4 (0, 0)) ∧ ∀ i, i < n → arr[i]? = some (.bool (inn i))
theorem BlAt.lt {w : World} {b n : Nat} {inn : Nat → Bool} (h : BlAt w b n inn) : b < w.heap.size := by
  obtain ⟨arr, h1, _⟩ := h
  exact (Array.getElem?_eq_some_iff.1 h1).1
theorem BlAt.below {w w' : World} {b n : Nat} {inn : Nat → Bool} (h : BlAt w b n inn) (hb : Below w.heap.size w w') : BlAt w' b n inn := by
  obtain ⟨arr, h1, h2⟩ := h
  exact ⟨arr, (hb.block b (Array.getElem?_eq_some_iff.1 h1).1).trans h1, h2⟩
theorem BlAt.kept {w w' : World} {b n : Nat} {inn : Nat → Bool} (h : BlAt w b n inn) (hb : w'.heap[b]? = w.heap[b]?) : BlAt w' b n inn := by
  obtain ⟨arr, h1, h2⟩ := h
  exact ⟨arr, hb.trans h1, h2⟩
theorem BlAt.at' {w : World} {b n : Nat} {inn : Nat → Bool} (h : BlAt w b n inn) {i : Nat} (hi : i < n) : w.cell? ⟨b, i, none⟩ = some (.bool (inn i)) := by
  obtain ⟨arr, h1, h2⟩ := h
  exact (cell_of_block h1 i).trans (h2 i hi)
theorem BlAt.free {w : World} {b n : Nat} {inn : Nat → Bool} (h : BlAt w b n inn) (j : Nat) : w.frozen? ⟨b, j, none⟩ = false := by
  obtain ⟨arr, h1, h2⟩ := h
  exact unfrozen_of_block h1 j
/-- The marks of the rounds that are over. -/
def Mks (w0 : World) (Ds : List Nat) (W : World) : Prop := ∀ E ∈ Ds, w0.heap.size ≤ E ∧ W.heap[E]? = some (.deferred (some []))
/-- What a turn begins with. -/
structure Trn (w0 w : World) (z T g b bi n : Nat) (inn : Nat → Bool) (cnt : Int) (k0 : Nat) (t : Int) (Ds : List Nat) : Prop where
  list : Boxed w z 30 (.slice (some ⟨bi, 0, none⟩) n n)
  stop : Boxed w (z + 1) 3 (.int .i64 (k0 : Nat))
  res : Boxed w (z + 1 + 1) 4 (.bool false)
  own : Boxed w (z + 1 + 1 + 1) 22 (.pointer (some ⟨g, 0, none⟩))
  turn : Boxed w T 3 (.int .i64 t)
  low : z + 1 + 1 + 1 < T ∧ z = w0.heap.size
  ch : Ch w g b n inn cnt
  bl : BlAt w bi n inn
  bel : Below w0.heap.size w0 w
  mks : ∀ D ∈ Ds, w0.heap.size ≤ D ∧ w.heap[D]? = some (.deferred (some []))
theorem Trn.below {w0 w w' : World} {z T g b bi n : Nat} {inn : Nat → Bool} {cnt : Int} {k0 : Nat} {t : Int} {Ds : List Nat} (h : Trn w0 w z T g b bi n inn cnt k0 t Ds) (hb : Below w.heap.size w w') : Trn w0 w' z T g b bi n inn cnt k0 t Ds :=
  ⟨boxed_below h.list hb h.list.lt, boxed_below h.stop hb h.stop.lt, boxed_below h.res hb h.res.lt, boxed_below h.own hb h.own.lt, boxed_below h.turn hb h.turn.lt, h.low, h.ch.below hb, h.bl.below hb, h.bel.trans (hb.mono h.bel.size),
    fun D hD => ⟨(h.mks D hD).1, (hb.block D (Array.getElem?_eq_some_iff.1 (h.mks D hD).2).1).trans (h.mks D hD).2⟩⟩
/-- The next turn's own variable. -/
theorem Trn.next {w0 w : World} {z T g b bi n : Nat} {inn : Nat → Bool} {cnt : Int} {k0 : Nat} {t : Int} {Ds : List Nat} (h : Trn w0 w z T g b bi n inn cnt k0 t Ds) {D : Nat} (hD : w0.heap.size ≤ D) (hk : w.heap[D]? = some (.deferred (some []))) (u : Int) :
    Trn w0 (w.alloc (.cells #[.int .i64 u] 3)) z w.heap.size g b bi n inn cnt k0 u (D :: Ds) := by
  have hb : Below w.heap.size w (w.alloc (.cells #[.int .i64 u] 3)) := (Below.refl _ w).alloc (Nat.le_refl _) _
  have h2 := h.below hb
  refine ⟨h2.list, h2.stop, h2.res, h2.own, Boxed.new w 3 _, ⟨h.own.lt, h.low.2⟩, h2.ch, h2.bl, h2.bel, fun D' hD' => ?_⟩
  rcases List.mem_cons.1 hD' with rfl | hD'
  · exact ⟨hD, (hb.block D' (Array.getElem?_eq_some_iff.1 hk).1).trans hk⟩
  · exact h2.mks D' hD'
theorem mono_named {F : Fence} {n : Nat} {P : Program} {c : Code} {Q : Exit → Act → World → Prop} {a : Act} {w : World} (R : Nat → Exit → World → Prop)
    (h : c.wpIn F n P (fun e a' W => ∃ D, a' = { a with defers := { target := .collected D, args := #[] } :: a.defers } ∧ R D e W) a w)
    (hq : ∀ D e W, R D e W → Q e { a with defers := { target := .collected D, args := #[] } :: a.defers } W) : c.wpIn F n P Q a w :=
  wpIn_mono h (by rintro e a' W ⟨D, rfl, hr⟩; exact hq D e W hr)
/-- The activation in which the body of a round begins. -/
def actOf (a : Act) (r : Nat) : Act := { tmps := (a.tmps.setIfInBounds 23 (.int .i64 (r : Nat))).setIfInBounds 13 (.int .i64 (r : Nat)), defers := [] }
theorem range_act {F : Fence} {n : Nat} {P : Program} {g : Operand} {assign body : Code} {Q : Exit → Act → World → Prop} {a : Act} {w : World}
    (hro : F.round = none) (h1 : 1 ≤ n) {gf : Nat} {lb : Array Value} (hg : a.eval g = .func (.func gf) #[] lb) (hFg : F.fn gf) (eg : ∀ args w, (callFunc gf args).run P w = .ok (.enter gf args) w)
    {Kp : World → World → Prop} {S Sp : List Nat → Prop} {N : Nat} {w0 : World} (hseq : SeqStopsK F (n - 1) P gf lb (fun r : Nat => #[.int .i64 (r : Nat)]) Kp S Sp N w0)
    (hKt : ∀ {A B C : World}, Kp A B → Kp B C → Kp A C) (hKb : ∀ (W : World) (l : Nat) (o o' : Obj), w.heap.size ≤ l → W.heap[l]? = some o → o.isCells = false → o.isWalk = false → Kp W (W.putObj l o')) (hb0 : Below w0.heap.size w0 w)
    (I : List Nat → World → Prop) (Ix : Code → List Nat → World → Prop) (hI : OwnFrom w.heap.size I) (hIx : ∀ c, OwnFrom w.heap.size (Ix c)) (h0 : I [] w)
    (hassign : ∀ (l : Nat) (pre : List Nat) (x : Nat) (W : World) (K : Act → World → Prop), I pre W → (∀ a' W', KeepsFrom w.heap.size W W' → Kp W W' → I pre W' → a' = actOf a x → K a' W') →
      assign.wpIn (F.inRound l) (n - 1 - 1) P (Exit.then K (fun _ _ _ => False)) { tmps := ((#[23] : Array Tmp).zip #[Value.int .i64 (x : Nat)]).foldl (fun t (p, v) => t.setIfInBounds p v) a.tmps, defers := [] } W)
    (hbody : ∀ (l : Nat) (pre : List Nat) (x : Nat) (W : World), w.heap.size ≤ l → (∃ r, W.heap[l]? = some (.loop r)) → I pre W → pre.length < N → body.wpIn (F.inRound l) (n - 1 - 1) P (ownPostG w.heap.size Kp I Ix (pre ++ [x]) W) (actOf a x) W)
    (hdone : ∀ (D : Nat) (xs : List Nat) (W : World), w.heap.size ≤ D → S xs → I xs W → W.heap[D]? = some (.deferred (some [])) → Q .normal { a with defers := { target := .collected D, args := #[] } :: a.defers } W)
    (hstop : ∀ (D : Nat) (c : Code) (pre : List Nat) (W : World), w.heap.size ≤ D → Sp pre → Ix c pre W → W.heap[D]? = some (.deferred (some [])) → c.wpIn F n P Q { a with defers := { target := .collected D, args := #[] } :: a.defers } W) :
    (Code.rangeFunc g #[23] assign body).wpIn F n P Q a w :=
  wpIn_rangeFunc_ownH hro h1 hg hFg eg hseq hKt hKb hb0 (fun _ => rfl) I Ix hI hIx h0 (fun x a' _ => a' = actOf a x) (fun x a' => ownFrom_pure _ (fun _ => a' = actOf a x))
    (fun l pre x W K hi hk => hassign l pre x W K hi hk) (fun l pre x a' W h1 h2 h3 h4 h5 => by subst h4; exact hbody l pre x W h1 h2 h3 h5) hdone hstop
theorem not_pre1 {inn : Nat → Bool} {n : Nat} {pre : List Nat} {x : Nat} (h : ((x : Nat) : Int) ≤ lastI pre) : ¬ (pre ++ [x]) <+: allG inn n 0 := fun hp => by
  have := (all_rise hp).1
  omega
theorem not_pre2 {inn : Nat → Bool} {n : Nat} {pre : List Nat} {x : Nat} (h : ¬ (x < n ∧ inn x = true)) : ¬ (pre ++ [x]) <+: allG inn n 0 := fun hp => by
  obtain ⟨_, h2, h3⟩ := all_mem (hp.subset (by simp : x ∈ pre ++ [x]))
  exact h ⟨by omega, h3⟩
set_option maxRecDepth 100000 in
set_option maxHeartbeats 8000000 in
theorem all_walk (g b bi n : Nat) (inn : Nat → Bool) (cnt : Nat) (k0 : Nat) (w : World) (hC : Ch w g b n inn (cnt : Nat)) (hB : BlAt w bi n inn) (hcnt : cnt = cntG inn n) :
    Calls Try.prog 14 #[.pointer (some ⟨g, 0, none⟩), .slice (some ⟨bi, 0, none⟩) n n, .int .i64 (cnt : Nat), .int .i64 (k0 : Nat)] w fun e w' => e = .returned (.bool true) ∧ Below w.heap.size w w' := by
  refine (callsIn_wide (n := 3)).1 ?_
  have h1 : 1 ≤ 3 := by omega
  have hnf : ∀ (wx : World) (lb : Array Value), (binOp BinOp.eql 41 (.func (.func 18) #[] lb) .nilFunc).run Try.prog wx = .ok (.bool false) wx := fun wx lb => by rfl
  have hlen := all_cnt inn n
  rw [← hcnt] at hlen
  have HLN : Hid ((allG inn n 0).length = cnt) := hlen
  have HA := fun wx => all_in 2 g wx
  obtain ⟨z, hz⟩ : ∃ z, z = w.heap.size := ⟨_, rfl⟩
  have HZ : Hid (z = w.heap.size) := hz
  clear hcnt hlen
  have hBA : Below w.heap.size w (((((w.alloc (.cells #[.slice (some ⟨bi, 0, none⟩) n n] 30)).alloc (.cells #[.int .i64 (k0 : Nat)] 3)).alloc (.cells #[.bool false] 4)).alloc (.cells #[.pointer (some ⟨g, 0, none⟩)] 22)).alloc (.cells #[.int .i64 0] 3)) := ((((((Below.refl _ w).alloc (Nat.le_refl _) _).alloc (by simp) _).alloc (by simp; omega) _).alloc (by simp; omega) _).alloc (by simp; omega) _)
  have g0 := ((((Boxed.new w 30 (.slice (some ⟨bi, 0, none⟩) n n)).alloc (.cells #[.int .i64 (k0 : Nat)] 3)).alloc (.cells #[.bool false] 4)).alloc (.cells #[.pointer (some ⟨g, 0, none⟩)] 22)).alloc (.cells #[.int .i64 0] 3)
  have g1 := (((Boxed.new (w.alloc (.cells #[.slice (some ⟨bi, 0, none⟩) n n] 30)) 3 (.int .i64 (k0 : Nat))).alloc (.cells #[.bool false] 4)).alloc (.cells #[.pointer (some ⟨g, 0, none⟩)] 22)).alloc (.cells #[.int .i64 0] 3)
  have g2 := ((Boxed.new ((w.alloc (.cells #[.slice (some ⟨bi, 0, none⟩) n n] 30)).alloc (.cells #[.int .i64 (k0 : Nat)] 3)) 4 (.bool false)).alloc (.cells #[.pointer (some ⟨g, 0, none⟩)] 22)).alloc (.cells #[.int .i64 0] 3)
  have g3 := (Boxed.new (((w.alloc (.cells #[.slice (some ⟨bi, 0, none⟩) n n] 30)).alloc (.cells #[.int .i64 (k0 : Nat)] 3)).alloc (.cells #[.bool false] 4)) 22 (.pointer (some ⟨g, 0, none⟩))).alloc (.cells #[.int .i64 0] 3)
  have g4 := Boxed.new ((((w.alloc (.cells #[.slice (some ⟨bi, 0, none⟩) n n] 30)).alloc (.cells #[.int .i64 (k0 : Nat)] 3)).alloc (.cells #[.bool false] 4)).alloc (.cells #[.pointer (some ⟨g, 0, none⟩)] 22)) 3 (.int .i64 0)
  simp only [World.size_alloc] at g1 g2 g3 g4
  rw [← hz] at g0 g1 g2 g3 g4
  refine callsIn_of_wp_marks Try.func14 rfl trivial ?_ rfl
  simp only [Try.ntmps14, List.size_toArray, List.length_cons, List.length_nil, Nat.reduceAdd, Nat.reduceSub, Array.replicate_succ, Array.replicate_zero, List.push_toArray, List.append_toArray, List.nil_append, List.cons_append]
  gi_wp2_with fail
  refine ⟨trivial, (HA _).mono ?_⟩
  rintro e w1 ⟨rfl, hw1⟩
  rw [hw1]
  clear hw1 HA
  gi_wp2_with fail
  have HT : Trn w (((((w.alloc (.cells #[.slice (some ⟨bi, 0, none⟩) n n] 30)).alloc (.cells #[.int .i64 (k0 : Nat)] 3)).alloc (.cells #[.bool false] 4)).alloc (.cells #[.pointer (some ⟨g, 0, none⟩)] 22)).alloc (.cells #[.int .i64 0] 3)) z (z + 1 + 1 + 1 + 1) g b bi n inn (cnt : Nat) k0 0 [] :=
    ⟨g0, g1, g2, g3, g4, ⟨by omega, hz⟩, hC.below hBA, hB.below hBA, hBA, fun D hD => by simp at hD⟩
  obtain ⟨Wt, hWt⟩ : ∃ Wt, Wt = ((((w.alloc (.cells #[.slice (some ⟨bi, 0, none⟩) n n] 30)).alloc (.cells #[.int .i64 (k0 : Nat)] 3)).alloc (.cells #[.bool false] 4)).alloc (.cells #[.pointer (some ⟨g, 0, none⟩)] 22)).alloc (.cells #[.int .i64 0] 3) := ⟨_, rfl⟩
  rw [← hWt] at HT ⊢
  rw [← hz]
  clear hWt hBA g0 g1 g2 g3 g4 hz hC hB
  refine wpIn_loop_rounds 4 ?_
  rw [roundsIn_succ]
  have cT := HT.turn.cell
  gi_wp2_with fail
  have hBta : Below Wt.heap.size Wt ((Wt.alloc (.cells #[.int .i64 0] 3)).alloc (.cells #[.int .i64 (-1)] 3)) := ((Below.refl _ Wt).alloc (Nat.le_refl _) _).alloc (by simp) _
  have HUa := HT.below hBta
  have b9 := (Boxed.new Wt 3 (.int .i64 0)).alloc (.cells #[.int .i64 (-1)] 3)
  have b10 := Boxed.new (Wt.alloc (.cells #[.int .i64 0] 3)) 3 (.int .i64 (-1))
  simp only [World.size_alloc] at b10
  have hzta : z + 1 + 1 < Wt.heap.size ∧ w.heap.size ≤ Wt.heap.size ∧ z + 1 + 1 + 1 + 1 < Wt.heap.size := ⟨HT.res.lt, HT.bel.size, HT.turn.lt⟩
  obtain ⟨B9a, hB9⟩ : ∃ B, B = Wt.heap.size := ⟨_, rfl⟩
  have H9a : Hid (B9a = Wt.heap.size) := hB9
  have hz9a : z + 1 + 1 < B9a ∧ w.heap.size ≤ B9a ∧ z + 1 + 1 + 1 + 1 < B9a := by rw [hB9]; exact hzta
  obtain ⟨V0a, hV0⟩ : ∃ V0a, V0a = (Wt.alloc (.cells #[.int .i64 0] 3)).alloc (.cells #[.int .i64 (-1)] 3) := ⟨_, rfl⟩
  rw [← hV0] at hBta HUa b9 b10 ⊢
  rw [← hB9] at b9 b10 ⊢
  clear hV0 hB9 cT
  refine mono_named (fun Da e W => V0a.heap.size ≤ Da ∧ W.heap[Da]? = some (.deferred (some [])) ∧ ((e = .normal ∧ Boxed W B9a 3 (.int .i64 (cnt : Nat)) ∧ Below Wt.heap.size Wt W) ∨ (e = .ret ∧ 0 = 2 ∧ Boxed W (z + 1 + 1) 4 (.bool true) ∧ Below w.heap.size w W ∧ Mks w [] W))) ?range ?after
  case range =>
    refine range_act rfl h1 (gf := 18) (lb := #[.pointer (some ⟨z + 1 + 1 + 1, 0, none⟩)]) rfl trivial (enters_of Try.func18 (by kernel_rfl) rfl)
      (all_stops 2 (by omega) (z + 1 + 1 + 1) g b n inn (cnt : Nat) V0a HUa.own HUa.ch) KpC.trans (KpC.putObj HUa.own.lt HUa.ch.lt.1 HUa.ch.lt.2) (Below.refl _ _)
      (fun pre W => (Boxed W B9a 3 (.int .i64 (pre.length : Nat)) ∧ Boxed W (B9a + 1) 3 (.int .i64 (lastI pre))) ∧ Below Wt.heap.size Wt W)
      (fun c pre W => (pre <+: allG inn n 0 → 0 = 2 ∧ c = .ret) ∧ (pre <+: allG inn n 0 → Boxed W (z + 1 + 1) 4 (.bool true)) ∧ (pre <+: allG inn n 0 → Below w.heap.size w W) ∧ (pre <+: allG inn n 0 → Mks w [] W))
      ?own ?ownx ⟨⟨b9, b10⟩, hBta⟩
      ?assign ?body ?done ?stop
    case own => exact OwnFrom.and (OwnFrom.and (Own.from (boxed_own _ _ (fun pre : List Nat => .int .i64 (pre.length : Nat))) _) (Own.from (boxed_own _ _ (fun pre : List Nat => .int .i64 (lastI pre))) _)) (ownFrom_below (Nat.le_refl _) hBta.size)
    case ownx =>
      intro c pre A B row ⟨x1, x2, x3, x4⟩ hg hr
      refine ⟨x1, fun hp => boxed_own (z + 1 + 1) 4 (fun _ : List Nat => .bool true) pre A B row (x2 hp) hg (fun r e => (hr r e).2), fun hp => ownFrom_below (β := Unit) (Nat.le_refl _) HUa.bel.size () A B row (x3 hp) hg hr, fun hp E hE => ⟨(x4 hp E hE).1, (hg.block E (Array.getElem?_eq_some_iff.1 (x4 hp E hE).2).1 (fun e => ?_)).trans (x4 hp E hE).2⟩⟩
      have h3 := (hr E e.symm).1
      have h4 := (Array.getElem?_eq_some_iff.1 (HT.mks E hE).2).1
      have h5 := hBta.size
      omega
    case assign =>
      rintro lp pre r W K hI hKa
      gi_wp2
      exact hKa _ _ ((keepsOthers_refl W).from _) (KpC.refl _ _ _ W) hI rfl
    case body =>
      rintro lp pre r W hl ⟨rr, hrr⟩ ⟨⟨c9, c10⟩, hB⟩ hlt
      simp only [actOf, List.setIfInBounds_toArray, List.set_cons_succ, List.set_cons_zero]
      have HU2 := HT.below hB
      have cL := HU2.list.cell
      have cS := HU2.stop.cell
      have k10 := c10.cell
      have k4 := HU2.res.cell
      have f4 := HU2.res.frozen
      have cT := HU2.turn.cell
      by_cases hrl : ((r : Nat) : Int) ≤ lastI pre
      · have dl : decide (((r : Nat) : Int) ≤ lastI pre) = true := decide_eq_true hrl
        have hno := not_pre1 (inn := inn) (n := n) hrl
        gi_wp2_with fail
        exact ⟨(KeepsOthers.setCell W ⟨z + 1 + 1, 0, none⟩ (.bool false)).from _, fun h => absurd h hno, fun h => absurd h hno, fun h => absurd h hno, fun h => absurd h hno⟩
      · have dl : decide (((r : Nat) : Int) ≤ lastI pre) = false := decide_eq_false hrl
        by_cases hrn : n ≤ r
        · have dn : decide (((n : Nat) : Int) ≤ ((r : Nat) : Int)) = true := decide_eq_true (by omega)
          have dn2 : decide (n ≤ r) = true := decide_eq_true hrn
          have hno := not_pre2 (inn := inn) (n := n) (pre := pre) (x := r) (by omega)
          gi_wp2_with fail
          exact ⟨(KeepsOthers.setCell W ⟨z + 1 + 1, 0, none⟩ (.bool false)).from _, fun h => absurd h hno, fun h => absurd h hno, fun h => absurd h hno, fun h => absurd h hno⟩
        · have dn : decide (((n : Nat) : Int) ≤ ((r : Nat) : Int)) = false := decide_eq_false (by omega)
          have dn2 : decide (n ≤ r) = false := decide_eq_false hrn
          have i0 : 0 ≤ ((r : Nat) : Int) ∧ ((r : Nat) : Int) < (n : Int) := by omega
          have cb := HU2.bl.at' (i := r) (by omega)
          cases hin : inn r with
          | false =>
            rw [hin] at cb
            have hno := not_pre2 (inn := inn) (n := n) (pre := pre) (x := r) (by rw [hin]; simp)
            gi_wp2_with fail
            exact ⟨(KeepsOthers.setCell W ⟨z + 1 + 1, 0, none⟩ (.bool false)).from _, fun h => absurd h hno, fun h => absurd h hno, fun h => absurd h hno, fun h => absurd h hno⟩
          | true =>
            rw [hin] at cb
            have k9 := c9.cell
            have f9 := c9.frozen
            have f10 := c10.frozen
            clear hin hrl hrn dn
            have hpl : pre.length ≤ 1048576 := by
              have := all_len inn n 0
              have := HT.ch.le
              omega
            have hks : KeepsOthers W ((W.setCell ⟨B9a + 1, 0, none⟩ (.int .i64 (r : Nat))).setCell ⟨B9a, 0, none⟩ (.int .i64 ((pre.length : Int) + 1))) := (KeepsOthers.setCell _ _ _).trans (KeepsOthers.setCell _ _ _)
            have e1 : ((pre ++ [r]).length : Int) = (pre.length : Int) + 1 := by simp
            have g9 : Boxed ((W.setCell ⟨B9a + 1, 0, none⟩ (.int .i64 (r : Nat))).setCell ⟨B9a, 0, none⟩ (.int .i64 ((pre.length : Int) + 1))) B9a 3 (.int .i64 ((pre ++ [r]).length : Nat)) := by rw [e1]; exact (c9.other (by omega) _).set _
            have gB : Below Wt.heap.size Wt ((W.setCell ⟨B9a + 1, 0, none⟩ (.int .i64 (r : Nat))).setCell ⟨B9a, 0, none⟩ (.int .i64 ((pre.length : Int) + 1))) :=
              (hB.setCell (p := ⟨B9a + 1, 0, none⟩) (show Wt.heap.size ≤ B9a + 1 by rw [H9a.out]; omega) _).setCell (p := ⟨B9a, 0, none⟩) (show Wt.heap.size ≤ B9a by rw [H9a.out]; exact Nat.le_refl _) _
            have g10 : Boxed ((W.setCell ⟨B9a + 1, 0, none⟩ (.int .i64 (r : Nat))).setCell ⟨B9a, 0, none⟩ (.int .i64 ((pre.length : Int) + 1))) (B9a + 1) 3 (.int .i64 (lastI (pre ++ [r]))) := by rw [lastI_snoc]; exact (c10.set _).other (by omega) _
            have gK : KpC (z + 1 + 1 + 1) g b W ((W.setCell ⟨B9a + 1, 0, none⟩ (.int .i64 (r : Nat))).setCell ⟨B9a, 0, none⟩ (.int .i64 ((pre.length : Int) + 1))) := by
              have HXa := HT.below gB
              have h3 : (z + 1 + 1 + 1 < Wt.heap.size ∧ g < Wt.heap.size ∧ b < Wt.heap.size) := ⟨HT.own.lt, HT.ch.lt.1, HT.ch.lt.2⟩
              exact ⟨by simp, (gB.block _ h3.1).trans (hB.block _ h3.1).symm, (gB.block _ h3.2.1).trans (hB.block _ h3.2.1).symm, (gB.block _ h3.2.2).trans (hB.block _ h3.2.2).symm⟩
            clear e1
            gi_wp2_with fail
            exact ⟨hks.from _, gK, ⟨g9, g10⟩, gB⟩
    case done =>
      rintro Da ys W hD rfl ⟨⟨c9, c10⟩, hB⟩ hKa
      rw [HLN.out] at c9
      exact ⟨Da, rfl, hD, hKa, .inl ⟨rfl, c9, hB⟩⟩
    case stop =>
      rintro Da c pre W hD hp ⟨hx1, hx2, hx3, hx4⟩ hKa
      obtain ⟨h2, rfl⟩ := hx1 hp
      have h3 := hx2 hp
      have h4 := hx3 hp
      have h5 := hx4 hp
      exact absurd h2 (by decide)
  case after =>
    rintro Da e W ⟨hD, hKa, hw⟩
    have hD0a : w.heap.size ≤ Da ∧ Wt.heap.size ≤ Da := by
      have h1 := hBta.size
      exact ⟨by omega, by omega⟩
    rcases hw with ⟨rfl, c9, hB⟩ | ⟨rfl, h2, h3, h4, h5⟩
    · have HU3 := HT.below hB
      have cT := HU3.turn.cell
      have c9k := c9.cell
      have dq : (((cnt : Nat) : Int) != ((cnt : Nat) : Int)) = false := by simp
      have HXa := HU3.next hD0a.1 hKa (1 : Int)
      obtain ⟨YBa, hYB⟩ : ∃ T, T = W.heap.size := ⟨_, rfl⟩
      have HYBa : Hid (YBa = W.heap.size) := hYB
      gi_wp2_with fail
      obtain ⟨WNa, hWN⟩ : ∃ WNa, WNa = W.alloc (.cells #[.int .i64 (1 : Int)] 3) := ⟨_, rfl⟩
      rw [← hWN] at HXa ⊢
      rw [← hYB] at HXa ⊢
      have hDNa : Da < WNa.heap.size ∧ YBa < WNa.heap.size := ⟨by have := (Array.getElem?_eq_some_iff.1 hKa).1; have := HXa.turn.lt; omega, HXa.turn.lt⟩
      clear hWN hYB hKa HU3 c9 cT c9k hB HUa
      rw [roundsIn_succ]
      have cT := HXa.turn.cell
      gi_wp2_with fail
      have hBtb : Below WNa.heap.size WNa ((WNa.alloc (.cells #[.int .i64 0] 3)).alloc (.cells #[.int .i64 (-1)] 3)) := ((Below.refl _ WNa).alloc (Nat.le_refl _) _).alloc (by simp) _
      have HUb := HXa.below hBtb
      have b9 := (Boxed.new WNa 3 (.int .i64 0)).alloc (.cells #[.int .i64 (-1)] 3)
      have b10 := Boxed.new (WNa.alloc (.cells #[.int .i64 0] 3)) 3 (.int .i64 (-1))
      simp only [World.size_alloc] at b10
      have hztb : z + 1 + 1 < WNa.heap.size ∧ w.heap.size ≤ WNa.heap.size ∧ YBa < WNa.heap.size := ⟨HXa.res.lt, HXa.bel.size, HXa.turn.lt⟩
      obtain ⟨B9b, hB9⟩ : ∃ B, B = WNa.heap.size := ⟨_, rfl⟩
      have H9b : Hid (B9b = WNa.heap.size) := hB9
      have hz9b : z + 1 + 1 < B9b ∧ w.heap.size ≤ B9b ∧ YBa < B9b := by rw [hB9]; exact hztb
      obtain ⟨V0b, hV0⟩ : ∃ V0b, V0b = (WNa.alloc (.cells #[.int .i64 0] 3)).alloc (.cells #[.int .i64 (-1)] 3) := ⟨_, rfl⟩
      rw [← hV0] at hBtb HUb b9 b10 ⊢
      rw [← hB9] at b9 b10 ⊢
      clear hV0 hB9 cT
      refine mono_named (fun Db e W => V0b.heap.size ≤ Db ∧ W.heap[Db]? = some (.deferred (some [])) ∧ ((e = .normal ∧ Boxed W B9b 3 (.int .i64 (cnt : Nat)) ∧ Below WNa.heap.size WNa W) ∨ (e = .ret ∧ 1 = 2 ∧ Boxed W (z + 1 + 1) 4 (.bool true) ∧ Below w.heap.size w W ∧ Mks w [Da] W))) ?range ?after
      case range =>
        refine range_act rfl h1 (gf := 18) (lb := #[.pointer (some ⟨z + 1 + 1 + 1, 0, none⟩)]) rfl trivial (enters_of Try.func18 (by kernel_rfl) rfl)
          (all_stops 2 (by omega) (z + 1 + 1 + 1) g b n inn (cnt : Nat) V0b HUb.own HUb.ch) KpC.trans (KpC.putObj HUb.own.lt HUb.ch.lt.1 HUb.ch.lt.2) (Below.refl _ _)
          (fun pre W => (Boxed W B9b 3 (.int .i64 (pre.length : Nat)) ∧ Boxed W (B9b + 1) 3 (.int .i64 (lastI pre))) ∧ Below WNa.heap.size WNa W)
          (fun c pre W => (pre <+: allG inn n 0 → 1 = 2 ∧ c = .ret) ∧ (pre <+: allG inn n 0 → Boxed W (z + 1 + 1) 4 (.bool true)) ∧ (pre <+: allG inn n 0 → Below w.heap.size w W) ∧ (pre <+: allG inn n 0 → Mks w [Da] W))
          ?own ?ownx ⟨⟨b9, b10⟩, hBtb⟩
          ?assign ?body ?done ?stop
        case own => exact OwnFrom.and (OwnFrom.and (Own.from (boxed_own _ _ (fun pre : List Nat => .int .i64 (pre.length : Nat))) _) (Own.from (boxed_own _ _ (fun pre : List Nat => .int .i64 (lastI pre))) _)) (ownFrom_below (Nat.le_refl _) hBtb.size)
        case ownx =>
          intro c pre A B row ⟨x1, x2, x3, x4⟩ hg hr
          refine ⟨x1, fun hp => boxed_own (z + 1 + 1) 4 (fun _ : List Nat => .bool true) pre A B row (x2 hp) hg (fun r e => (hr r e).2), fun hp => ownFrom_below (β := Unit) (Nat.le_refl _) HUb.bel.size () A B row (x3 hp) hg hr, fun hp E hE => ⟨(x4 hp E hE).1, (hg.block E (Array.getElem?_eq_some_iff.1 (x4 hp E hE).2).1 (fun e => ?_)).trans (x4 hp E hE).2⟩⟩
          have h3 := (hr E e.symm).1
          have h4 := (Array.getElem?_eq_some_iff.1 (HXa.mks E hE).2).1
          have h5 := hBtb.size
          omega
        case assign =>
          rintro lp pre r W K hI hKb
          gi_wp2
          exact hKb _ _ ((keepsOthers_refl W).from _) (KpC.refl _ _ _ W) hI rfl
        case body =>
          rintro lp pre r W hl ⟨rr, hrr⟩ ⟨⟨c9, c10⟩, hB⟩ hlt
          simp only [actOf, List.setIfInBounds_toArray, List.set_cons_succ, List.set_cons_zero]
          have HU2 := HXa.below hB
          have cL := HU2.list.cell
          have cS := HU2.stop.cell
          have k10 := c10.cell
          have k4 := HU2.res.cell
          have f4 := HU2.res.frozen
          have cT := HU2.turn.cell
          by_cases hrl : ((r : Nat) : Int) ≤ lastI pre
          · have dl : decide (((r : Nat) : Int) ≤ lastI pre) = true := decide_eq_true hrl
            have hno := not_pre1 (inn := inn) (n := n) hrl
            gi_wp2_with fail
            exact ⟨(KeepsOthers.setCell W ⟨z + 1 + 1, 0, none⟩ (.bool false)).from _, fun h => absurd h hno, fun h => absurd h hno, fun h => absurd h hno, fun h => absurd h hno⟩
          · have dl : decide (((r : Nat) : Int) ≤ lastI pre) = false := decide_eq_false hrl
            by_cases hrn : n ≤ r
            · have dn : decide (((n : Nat) : Int) ≤ ((r : Nat) : Int)) = true := decide_eq_true (by omega)
              have dn2 : decide (n ≤ r) = true := decide_eq_true hrn
              have hno := not_pre2 (inn := inn) (n := n) (pre := pre) (x := r) (by omega)
              gi_wp2_with fail
              exact ⟨(KeepsOthers.setCell W ⟨z + 1 + 1, 0, none⟩ (.bool false)).from _, fun h => absurd h hno, fun h => absurd h hno, fun h => absurd h hno, fun h => absurd h hno⟩
            · have dn : decide (((n : Nat) : Int) ≤ ((r : Nat) : Int)) = false := decide_eq_false (by omega)
              have dn2 : decide (n ≤ r) = false := decide_eq_false hrn
              have i0 : 0 ≤ ((r : Nat) : Int) ∧ ((r : Nat) : Int) < (n : Int) := by omega
              have cb := HU2.bl.at' (i := r) (by omega)
              cases hin : inn r with
              | false =>
                rw [hin] at cb
                have hno := not_pre2 (inn := inn) (n := n) (pre := pre) (x := r) (by rw [hin]; simp)
                gi_wp2_with fail
                exact ⟨(KeepsOthers.setCell W ⟨z + 1 + 1, 0, none⟩ (.bool false)).from _, fun h => absurd h hno, fun h => absurd h hno, fun h => absurd h hno, fun h => absurd h hno⟩
              | true =>
                rw [hin] at cb
                have k9 := c9.cell
                have f9 := c9.frozen
                have f10 := c10.frozen
                clear hin hrl hrn dn
                have hpl : pre.length ≤ 1048576 := by
                  have := all_len inn n 0
                  have := HXa.ch.le
                  omega
                have hks : KeepsOthers W ((W.setCell ⟨B9b + 1, 0, none⟩ (.int .i64 (r : Nat))).setCell ⟨B9b, 0, none⟩ (.int .i64 ((pre.length : Int) + 1))) := (KeepsOthers.setCell _ _ _).trans (KeepsOthers.setCell _ _ _)
                have e1 : ((pre ++ [r]).length : Int) = (pre.length : Int) + 1 := by simp
                have g9 : Boxed ((W.setCell ⟨B9b + 1, 0, none⟩ (.int .i64 (r : Nat))).setCell ⟨B9b, 0, none⟩ (.int .i64 ((pre.length : Int) + 1))) B9b 3 (.int .i64 ((pre ++ [r]).length : Nat)) := by rw [e1]; exact (c9.other (by omega) _).set _
                have gB : Below WNa.heap.size WNa ((W.setCell ⟨B9b + 1, 0, none⟩ (.int .i64 (r : Nat))).setCell ⟨B9b, 0, none⟩ (.int .i64 ((pre.length : Int) + 1))) :=
                  (hB.setCell (p := ⟨B9b + 1, 0, none⟩) (show WNa.heap.size ≤ B9b + 1 by rw [H9b.out]; omega) _).setCell (p := ⟨B9b, 0, none⟩) (show WNa.heap.size ≤ B9b by rw [H9b.out]; exact Nat.le_refl _) _
                have g10 : Boxed ((W.setCell ⟨B9b + 1, 0, none⟩ (.int .i64 (r : Nat))).setCell ⟨B9b, 0, none⟩ (.int .i64 ((pre.length : Int) + 1))) (B9b + 1) 3 (.int .i64 (lastI (pre ++ [r]))) := by rw [lastI_snoc]; exact (c10.set _).other (by omega) _
                have gK : KpC (z + 1 + 1 + 1) g b W ((W.setCell ⟨B9b + 1, 0, none⟩ (.int .i64 (r : Nat))).setCell ⟨B9b, 0, none⟩ (.int .i64 ((pre.length : Int) + 1))) := by
                  have HXb := HXa.below gB
                  have h3 : (z + 1 + 1 + 1 < WNa.heap.size ∧ g < WNa.heap.size ∧ b < WNa.heap.size) := ⟨HXa.own.lt, HXa.ch.lt.1, HXa.ch.lt.2⟩
                  exact ⟨by simp, (gB.block _ h3.1).trans (hB.block _ h3.1).symm, (gB.block _ h3.2.1).trans (hB.block _ h3.2.1).symm, (gB.block _ h3.2.2).trans (hB.block _ h3.2.2).symm⟩
                clear e1
                gi_wp2_with fail
                exact ⟨hks.from _, gK, ⟨g9, g10⟩, gB⟩
        case done =>
          rintro Db ys W hD rfl ⟨⟨c9, c10⟩, hB⟩ hKb
          rw [HLN.out] at c9
          exact ⟨Db, rfl, hD, hKb, .inl ⟨rfl, c9, hB⟩⟩
        case stop =>
          rintro Db c pre W hD hp ⟨hx1, hx2, hx3, hx4⟩ hKb
          obtain ⟨h2, rfl⟩ := hx1 hp
          have h3 := hx2 hp
          have h4 := hx3 hp
          have h5 := hx4 hp
          exact absurd h2 (by decide)
      case after =>
        rintro Db e W ⟨hD, hKb, hw⟩
        have hD0b : w.heap.size ≤ Db ∧ WNa.heap.size ≤ Db := by
          have h1 := hBtb.size
          exact ⟨by omega, by omega⟩
        rcases hw with ⟨rfl, c9, hB⟩ | ⟨rfl, h2, h3, h4, h5⟩
        · have HU3 := HXa.below hB
          have cT := HU3.turn.cell
          have c9k := c9.cell
          have dq : (((cnt : Nat) : Int) != ((cnt : Nat) : Int)) = false := by simp
          have HXb := HU3.next hD0b.1 hKb (2 : Int)
          obtain ⟨YBb, hYB⟩ : ∃ T, T = W.heap.size := ⟨_, rfl⟩
          have HYBb : Hid (YBb = W.heap.size) := hYB
          gi_wp2_with fail
          obtain ⟨WNb, hWN⟩ : ∃ WNb, WNb = W.alloc (.cells #[.int .i64 (2 : Int)] 3) := ⟨_, rfl⟩
          rw [← hWN] at HXb ⊢
          rw [← hYB] at HXb ⊢
          have hDNb : Db < WNb.heap.size ∧ YBb < WNb.heap.size := ⟨by have := (Array.getElem?_eq_some_iff.1 hKb).1; have := HXb.turn.lt; omega, HXb.turn.lt⟩
          clear hWN hYB hKb HU3 c9 cT c9k hB HUb
          rw [roundsIn_succ]
          have cT := HXb.turn.cell
          gi_wp2_with fail
          have hBtc : Below WNb.heap.size WNb ((WNb.alloc (.cells #[.int .i64 0] 3)).alloc (.cells #[.int .i64 (-1)] 3)) := ((Below.refl _ WNb).alloc (Nat.le_refl _) _).alloc (by simp) _
          have HUc := HXb.below hBtc
          have b9 := (Boxed.new WNb 3 (.int .i64 0)).alloc (.cells #[.int .i64 (-1)] 3)
          have b10 := Boxed.new (WNb.alloc (.cells #[.int .i64 0] 3)) 3 (.int .i64 (-1))
          simp only [World.size_alloc] at b10
          have hztc : z + 1 + 1 < WNb.heap.size ∧ w.heap.size ≤ WNb.heap.size ∧ YBb < WNb.heap.size := ⟨HXb.res.lt, HXb.bel.size, HXb.turn.lt⟩
          obtain ⟨B9c, hB9⟩ : ∃ B, B = WNb.heap.size := ⟨_, rfl⟩
          have H9c : Hid (B9c = WNb.heap.size) := hB9
          have hz9c : z + 1 + 1 < B9c ∧ w.heap.size ≤ B9c ∧ YBb < B9c := by rw [hB9]; exact hztc
          obtain ⟨V0c, hV0⟩ : ∃ V0c, V0c = (WNb.alloc (.cells #[.int .i64 0] 3)).alloc (.cells #[.int .i64 (-1)] 3) := ⟨_, rfl⟩
          rw [← hV0] at hBtc HUc b9 b10 ⊢
          rw [← hB9] at b9 b10 ⊢
          clear hV0 hB9 cT
          refine mono_named (fun Dc e W => V0c.heap.size ≤ Dc ∧ W.heap[Dc]? = some (.deferred (some [])) ∧ ((e = .normal ∧ Boxed W B9c 3 (.int .i64 (cnt : Nat)) ∧ Below WNb.heap.size WNb W) ∨ (e = .ret ∧ 2 = 2 ∧ Boxed W (z + 1 + 1) 4 (.bool true) ∧ Below w.heap.size w W ∧ Mks w [Db, Da] W))) ?range ?after
          case range =>
            refine range_act rfl h1 (gf := 18) (lb := #[.pointer (some ⟨z + 1 + 1 + 1, 0, none⟩)]) rfl trivial (enters_of Try.func18 (by kernel_rfl) rfl)
              (all_stops 2 (by omega) (z + 1 + 1 + 1) g b n inn (cnt : Nat) V0c HUc.own HUc.ch) KpC.trans (KpC.putObj HUc.own.lt HUc.ch.lt.1 HUc.ch.lt.2) (Below.refl _ _)
              (fun pre W => (Boxed W B9c 3 (.int .i64 (pre.length : Nat)) ∧ Boxed W (B9c + 1) 3 (.int .i64 (lastI pre))) ∧ Below WNb.heap.size WNb W)
              (fun c pre W => (pre <+: allG inn n 0 → 2 = 2 ∧ c = .ret) ∧ (pre <+: allG inn n 0 → Boxed W (z + 1 + 1) 4 (.bool true)) ∧ (pre <+: allG inn n 0 → Below w.heap.size w W) ∧ (pre <+: allG inn n 0 → Mks w [Db, Da] W))
              ?own ?ownx ⟨⟨b9, b10⟩, hBtc⟩
              ?assign ?body ?done ?stop
            case own => exact OwnFrom.and (OwnFrom.and (Own.from (boxed_own _ _ (fun pre : List Nat => .int .i64 (pre.length : Nat))) _) (Own.from (boxed_own _ _ (fun pre : List Nat => .int .i64 (lastI pre))) _)) (ownFrom_below (Nat.le_refl _) hBtc.size)
            case ownx =>
              intro c pre A B row ⟨x1, x2, x3, x4⟩ hg hr
              refine ⟨x1, fun hp => boxed_own (z + 1 + 1) 4 (fun _ : List Nat => .bool true) pre A B row (x2 hp) hg (fun r e => (hr r e).2), fun hp => ownFrom_below (β := Unit) (Nat.le_refl _) HUc.bel.size () A B row (x3 hp) hg hr, fun hp E hE => ⟨(x4 hp E hE).1, (hg.block E (Array.getElem?_eq_some_iff.1 (x4 hp E hE).2).1 (fun e => ?_)).trans (x4 hp E hE).2⟩⟩
              have h3 := (hr E e.symm).1
              have h4 := (Array.getElem?_eq_some_iff.1 (HXb.mks E hE).2).1
              have h5 := hBtc.size
              omega
            case assign =>
              rintro lp pre r W K hI hKc
              gi_wp2
              exact hKc _ _ ((keepsOthers_refl W).from _) (KpC.refl _ _ _ W) hI rfl
            case body =>
              rintro lp pre r W hl ⟨rr, hrr⟩ ⟨⟨c9, c10⟩, hB⟩ hlt
              simp only [actOf, List.setIfInBounds_toArray, List.set_cons_succ, List.set_cons_zero]
              have HU2 := HXb.below hB
              have cL := HU2.list.cell
              have cS := HU2.stop.cell
              have k10 := c10.cell
              have k4 := HU2.res.cell
              have f4 := HU2.res.frozen
              have cT := HU2.turn.cell
              by_cases hrl : ((r : Nat) : Int) ≤ lastI pre
              · have dl : decide (((r : Nat) : Int) ≤ lastI pre) = true := decide_eq_true hrl
                have hno := not_pre1 (inn := inn) (n := n) hrl
                gi_wp2_with fail
                exact ⟨(KeepsOthers.setCell W ⟨z + 1 + 1, 0, none⟩ (.bool false)).from _, fun h => absurd h hno, fun h => absurd h hno, fun h => absurd h hno, fun h => absurd h hno⟩
              · have dl : decide (((r : Nat) : Int) ≤ lastI pre) = false := decide_eq_false hrl
                by_cases hrn : n ≤ r
                · have dn : decide (((n : Nat) : Int) ≤ ((r : Nat) : Int)) = true := decide_eq_true (by omega)
                  have dn2 : decide (n ≤ r) = true := decide_eq_true hrn
                  have hno := not_pre2 (inn := inn) (n := n) (pre := pre) (x := r) (by omega)
                  gi_wp2_with fail
                  exact ⟨(KeepsOthers.setCell W ⟨z + 1 + 1, 0, none⟩ (.bool false)).from _, fun h => absurd h hno, fun h => absurd h hno, fun h => absurd h hno, fun h => absurd h hno⟩
                · have dn : decide (((n : Nat) : Int) ≤ ((r : Nat) : Int)) = false := decide_eq_false (by omega)
                  have dn2 : decide (n ≤ r) = false := decide_eq_false hrn
                  have i0 : 0 ≤ ((r : Nat) : Int) ∧ ((r : Nat) : Int) < (n : Int) := by omega
                  have cb := HU2.bl.at' (i := r) (by omega)
                  cases hin : inn r with
                  | false =>
                    rw [hin] at cb
                    have hno := not_pre2 (inn := inn) (n := n) (pre := pre) (x := r) (by rw [hin]; simp)
                    gi_wp2_with fail
                    exact ⟨(KeepsOthers.setCell W ⟨z + 1 + 1, 0, none⟩ (.bool false)).from _, fun h => absurd h hno, fun h => absurd h hno, fun h => absurd h hno, fun h => absurd h hno⟩
                  | true =>
                    rw [hin] at cb
                    have k9 := c9.cell
                    have f9 := c9.frozen
                    have f10 := c10.frozen
                    clear hin hrl hrn dn
                    have hpl : pre.length ≤ 1048576 := by
                      have := all_len inn n 0
                      have := HXb.ch.le
                      omega
                    have hks : KeepsOthers W ((W.setCell ⟨B9c + 1, 0, none⟩ (.int .i64 (r : Nat))).setCell ⟨B9c, 0, none⟩ (.int .i64 ((pre.length : Int) + 1))) := (KeepsOthers.setCell _ _ _).trans (KeepsOthers.setCell _ _ _)
                    have e1 : ((pre ++ [r]).length : Int) = (pre.length : Int) + 1 := by simp
                    have g9 : Boxed ((W.setCell ⟨B9c + 1, 0, none⟩ (.int .i64 (r : Nat))).setCell ⟨B9c, 0, none⟩ (.int .i64 ((pre.length : Int) + 1))) B9c 3 (.int .i64 ((pre ++ [r]).length : Nat)) := by rw [e1]; exact (c9.other (by omega) _).set _
                    have gB : Below WNb.heap.size WNb ((W.setCell ⟨B9c + 1, 0, none⟩ (.int .i64 (r : Nat))).setCell ⟨B9c, 0, none⟩ (.int .i64 ((pre.length : Int) + 1))) :=
                      (hB.setCell (p := ⟨B9c + 1, 0, none⟩) (show WNb.heap.size ≤ B9c + 1 by rw [H9c.out]; omega) _).setCell (p := ⟨B9c, 0, none⟩) (show WNb.heap.size ≤ B9c by rw [H9c.out]; exact Nat.le_refl _) _
                    have g10 : Boxed ((W.setCell ⟨B9c + 1, 0, none⟩ (.int .i64 (r : Nat))).setCell ⟨B9c, 0, none⟩ (.int .i64 ((pre.length : Int) + 1))) (B9c + 1) 3 (.int .i64 (lastI (pre ++ [r]))) := by rw [lastI_snoc]; exact (c10.set _).other (by omega) _
                    have gK : KpC (z + 1 + 1 + 1) g b W ((W.setCell ⟨B9c + 1, 0, none⟩ (.int .i64 (r : Nat))).setCell ⟨B9c, 0, none⟩ (.int .i64 ((pre.length : Int) + 1))) := by
                      have HXc := HXb.below gB
                      have h3 : (z + 1 + 1 + 1 < WNb.heap.size ∧ g < WNb.heap.size ∧ b < WNb.heap.size) := ⟨HXb.own.lt, HXb.ch.lt.1, HXb.ch.lt.2⟩
                      exact ⟨by simp, (gB.block _ h3.1).trans (hB.block _ h3.1).symm, (gB.block _ h3.2.1).trans (hB.block _ h3.2.1).symm, (gB.block _ h3.2.2).trans (hB.block _ h3.2.2).symm⟩
                    clear e1
                    by_cases hst : k0 < pre.length + 1
                    · have ds : decide ((k0 : Int) < (pre.length : Int) + 1) = true := decide_eq_true (by omega)
                      have k4' := (HXb.below gB).res.cell
                      have f4' := (HXb.below gB).res.frozen
                      have hks2 := hks.trans (KeepsOthers.setCell _ ⟨z + 1 + 1, 0, none⟩ (.bool true))
                      have r4 := (HXb.below gB).res.set (.bool true)
                      have rB := (HXb.below gB).bel.setCell (p := ⟨z + 1 + 1, 0, none⟩) (show w.heap.size ≤ z + 1 + 1 by rw [HZ.out]; omega) (.bool true)
                      have rM : Mks w [Db, Da] (((W.setCell ⟨B9c + 1, 0, none⟩ (.int .i64 (r : Nat))).setCell ⟨B9c, 0, none⟩ (.int .i64 ((pre.length : Int) + 1))).setCell ⟨z + 1 + 1, 0, none⟩ (.bool true)) := fun E hE =>
                        ⟨(HXb.mks E hE).1, (KeepsOthers.setCell _ ⟨z + 1 + 1, 0, none⟩ (.bool true)).same E _ ((HXb.below gB).mks E hE).2 rfl⟩
                      gi_wp2_with fail
                      exact ⟨hks2.from _, (by intro _; first | exact ⟨rfl, rfl⟩ | exact ⟨trivial, rfl⟩ | trivial), fun _ => r4, fun _ => rB, fun _ => rM⟩
                    · have ds : decide ((k0 : Int) < (pre.length : Int) + 1) = false := decide_eq_false (by omega)
                      gi_wp2_with fail
                      exact ⟨hks.from _, gK, ⟨g9, g10⟩, gB⟩
            case done =>
              rintro Dc ys W hD rfl ⟨⟨c9, c10⟩, hB⟩ hKc
              rw [HLN.out] at c9
              exact ⟨Dc, rfl, hD, hKc, .inl ⟨rfl, c9, hB⟩⟩
            case stop =>
              rintro Dc c pre W hD hp ⟨hx1, hx2, hx3, hx4⟩ hKc
              obtain ⟨h2, rfl⟩ := hx1 hp
              have h3 := hx2 hp
              have h4 := hx3 hp
              have h5 := hx4 hp
              gi_wp2_with fail
          case after =>
            rintro Dc e W ⟨hD, hKc, hw⟩
            have hD0c : w.heap.size ≤ Dc ∧ WNb.heap.size ≤ Dc := by
              have h1 := hBtc.size
              exact ⟨by omega, by omega⟩
            rcases hw with ⟨rfl, c9, hB⟩ | ⟨rfl, h2, h3, h4, h5⟩
            · have HU3 := HXb.below hB
              have cT := HU3.turn.cell
              have c9k := c9.cell
              have dq : (((cnt : Nat) : Int) != ((cnt : Nat) : Int)) = false := by simp
              have HXc := HU3.next hD0c.1 hKc (3 : Int)
              obtain ⟨YBc, hYB⟩ : ∃ T, T = W.heap.size := ⟨_, rfl⟩
              have HYBc : Hid (YBc = W.heap.size) := hYB
              gi_wp2_with fail
              obtain ⟨WNc, hWN⟩ : ∃ WNc, WNc = W.alloc (.cells #[.int .i64 (3 : Int)] 3) := ⟨_, rfl⟩
              rw [← hWN] at HXc ⊢
              rw [← hYB] at HXc ⊢
              have hDNc : Dc < WNc.heap.size ∧ YBc < WNc.heap.size := ⟨by have := (Array.getElem?_eq_some_iff.1 hKc).1; have := HXc.turn.lt; omega, HXc.turn.lt⟩
              clear hWN hYB hKc HU3 c9 cT c9k hB HUc
              rw [roundsIn_succ]
              have cT := HXc.turn.cell
              have k4 := HXc.res.cell
              have f4 := HXc.res.frozen
              gi_wp2_with fail
              have q4 := HXc.res.set (.bool true)
              have KO := KeepsOthers.setCell WNc ⟨z + 1 + 1, 0, none⟩ (.bool true)
              have BX := HXc.bel.setCell (p := ⟨z + 1 + 1, 0, none⟩) (show w.heap.size ≤ z + 1 + 1 by rw [HZ.out]; omega) (.bool true)
              have mall : ∀ E ∈ [Dc, Db, Da], w.heap.size ≤ E ∧ (WNc.setCell ⟨z + 1 + 1, 0, none⟩ (.bool true)).heap[E]? = some (.deferred (some [])) := fun E hE => ⟨(HXc.mks E hE).1, KO.same E _ (HXc.mks E hE).2 rfl⟩
              obtain ⟨WX, hWX⟩ : ∃ WX, WX = WNc.setCell ⟨z + 1 + 1, 0, none⟩ (.bool true) := ⟨_, rfl⟩
              rw [← hWX] at q4 BX mall ⊢
              clear hWX KO
              have kDc := (mall Dc (by simp)).2
              have mDb := mall Db (by simp)
              have mDa := mall Da (by simp)
              have n1 : Dc ≠ Db := by omega
              have n2 : Dc ≠ Da := by omega
              have n3 : Db ≠ Da := by omega
              have e1 : (WX.putObj Dc (.deferred none)).heap[Db]? = some (.deferred (some [])) := (World.putObj_heap_other n1.symm).trans mDb.2
              have e2 : ((WX.putObj Dc (.deferred none)).putObj Db (.deferred none)).heap[Da]? = some (.deferred (some [])) := (World.putObj_heap_other n3.symm).trans ((World.putObj_heap_other n2.symm).trans mDa.2)
              have c1 := cell_kept q4.cell (grownBy_putObj' WX Dc (.deferred none)) (fun r e => by cases e; exact ⟨_, kDc, rfl⟩)
              have c2 := cell_kept c1 (grownBy_putObj' (WX.putObj Dc (.deferred none)) Db (.deferred none)) (fun r e => by cases e; exact ⟨_, e1, rfl⟩)
              have c3 := cell_kept c2 (grownBy_putObj' ((WX.putObj Dc (.deferred none)).putObj Db (.deferred none)) Da (.deferred none)) (fun r e => by cases e; exact ⟨_, e2, rfl⟩)
              have y1 := BX.trans (belowK_b (w := w) (Nat.le_refl _) WX Dc _ (.deferred none) (by omega) kDc rfl rfl)
              have y2 := y1.trans (belowK_b (w := w) (Nat.le_refl _) _ Db _ (.deferred none) mDb.1 e1 rfl rfl)
              have y3 := y2.trans (belowK_b (w := w) (Nat.le_refl _) _ Da _ (.deferred none) mDa.1 e2 rfl rfl)
              refine ⟨by simp, .inl ⟨Dc, _, rfl, run_takeDeferred kDc, ?_⟩⟩
              refine ⟨by simp, .inl ⟨Db, _, rfl, run_takeDeferred e1, ?_⟩⟩
              refine ⟨by simp, .inl ⟨Da, _, rfl, run_takeDeferred e2, ?_⟩⟩
              exact ⟨.bool true, by simp [results, Try.results14, go_sem, c3], rfl, y3⟩
            · gi_wp2_with fail
              have mDb := h5 Db (by simp)
              have mDa := h5 Da (by simp)
              have n1 : Dc ≠ Db := by omega
              have n2 : Dc ≠ Da := by omega
              have n3 : Db ≠ Da := by omega
              have e1 : (W.putObj Dc (.deferred none)).heap[Db]? = some (.deferred (some [])) := (World.putObj_heap_other n1.symm).trans mDb.2
              have e2 : ((W.putObj Dc (.deferred none)).putObj Db (.deferred none)).heap[Da]? = some (.deferred (some [])) := (World.putObj_heap_other n3.symm).trans ((World.putObj_heap_other n2.symm).trans mDa.2)
              have c1 := cell_kept h3.cell (grownBy_putObj' W Dc (.deferred none)) (fun r e => by cases e; exact ⟨_, hKc, rfl⟩)
              have c2 := cell_kept c1 (grownBy_putObj' (W.putObj Dc (.deferred none)) Db (.deferred none)) (fun r e => by cases e; exact ⟨_, e1, rfl⟩)
              have c3 := cell_kept c2 (grownBy_putObj' ((W.putObj Dc (.deferred none)).putObj Db (.deferred none)) Da (.deferred none)) (fun r e => by cases e; exact ⟨_, e2, rfl⟩)
              have y1 := h4.trans (belowK_b (w := w) (Nat.le_refl _) W Dc _ (.deferred none) (by omega) hKc rfl rfl)
              have y2 := y1.trans (belowK_b (w := w) (Nat.le_refl _) _ Db _ (.deferred none) mDb.1 e1 rfl rfl)
              have y3 := y2.trans (belowK_b (w := w) (Nat.le_refl _) _ Da _ (.deferred none) mDa.1 e2 rfl rfl)
              refine ⟨by simp, .inl ⟨Dc, _, rfl, run_takeDeferred hKc, ?_⟩⟩
              refine ⟨by simp, .inl ⟨Db, _, rfl, run_takeDeferred e1, ?_⟩⟩
              refine ⟨by simp, .inl ⟨Da, _, rfl, run_takeDeferred e2, ?_⟩⟩
              exact ⟨.bool true, by simp [results, Try.results14, go_sem, c3], rfl, y3⟩
        · exact absurd h2 (by decide)
    · exact absurd h2 (by decide)
end Go.Proofs.Ytlmbkhpbfmkmjaa.CH
