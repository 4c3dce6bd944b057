/- classes.Runs: its iterator's contract. -/
import Derived.Test.YtddeamecgbdajaaDoorCRunMath
import Derived.Test.YtddeamecgbdajaaDoorCLaw
namespace Go.Proofs.YtddeamecgbdajaaDoor
open Go.RowKit Go.Shelf Go.Lib
open Go.Joins
attribute [local go_sem] Oper.semAt_some
/-- A run's value and cells. -/
def rnv (x : Rn) : Value := .agg #[.int .i64 (x.kd : Nat), .int .i64 (x.frm : Nat), .int .i64 (x.too : Nat), .int .i64 (x.n : Nat)]
def RunAt (W : World) (b : Nat) (x : Rn) : Prop := W.heap[b]? = some (.cells #[.int .i64 (x.kd : Nat), .int .i64 (x.frm : Nat), .int .i64 (x.too : Nat), .int .i64 (x.n : Nat)] 39 (0, 0))
theorem RunAt.cells {W : World} {b : Nat} {x : Rn} (h : RunAt W b x) : W.cell? ⟨b, 0, none⟩ = some (.int .i64 (x.kd : Nat)) ∧ W.cell? ⟨b, 1, none⟩ = some (.int .i64 (x.frm : Nat)) ∧ W.cell? ⟨b, 2, none⟩ = some (.int .i64 (x.too : Nat)) ∧ W.cell? ⟨b, 3, none⟩ = some (.int .i64 (x.n : Nat)) := by
  refine ⟨?_, ?_, ?_, ?_⟩ <;> rw [cell_of_block h] <;> rfl
theorem grown_set (W : World) (b o : Nat) (v : Value) : W.grownBy (W.setCell ⟨b, o, none⟩ v) (some b) :=
  ⟨rfl, rfl, rfl, by simp, fun k _ hne => Below.heap_setCell W ⟨b, o, none⟩ v k (fun e => hne (by have e' : k = b := e; rw [e']))⟩
theorem roundIn_any {l m m' : Nat} {P : Program} {lp : Nat} {fn : FuncId} {tmps : Array Value} {assign body : Code} {W : World} {R : Ending → World → Prop} (h : RoundIn Fence.wide m P lp fn tmps assign body W R) : RoundIn (Fence.wide.inRound l) m' P lp fn tmps assign body W R :=
  ⟨h.1, fun c cs _ => h.2 c cs (by simp [Fence.room, Fence.wide])⟩
theorem roundIn_deep {m m' : Nat} {P : Program} {lp : Nat} {fn : FuncId} {tmps : Array Value} {assign body : Code} {W : World} {R : Ending → World → Prop} (h : RoundIn Fence.wide m P lp fn tmps assign body W R) : RoundIn Fence.wide m' P lp fn tmps assign body W R :=
  ⟨h.1, fun c cs _ => h.2 c cs (by simp [Fence.room, Fence.wide])⟩
/-- The activation in which the body of a round over kinds begins. -/
def actK (a : Act) (x : Nat × Nat) : Act := { tmps := (((a.tmps.setIfInBounds 10 (.int .i64 (x.1 : Nat))).setIfInBounds 11 (.int .i64 (x.2 : Nat))).setIfInBounds 5 (.int .i64 (x.1 : Nat))).setIfInBounds 6 (.int .i64 (x.2 : Nat)), defers := [] }
theorem range_kinds {F : Fence} {n : Nat} {P : Program} {g : Operand} {assign body : Code} {Q : Exit → Act → World → Prop} {a : Act} {w : World}
    (hro : F.round = none) (h1 : 1 ≤ n) {gf : Nat} {lb : Array Value} (hg : a.eval g = .func (.func gf) #[] lb) (hFg : F.fn gf) (eg : ∀ args w, (callFunc gf args).run P w = .ok (.enter gf args) w)
    {Kp : World → World → Prop} {S Sp : List (Nat × Nat) → Prop} {N : Nat} {w0 : World} (hseq : SeqStopsK F (n - 1) P gf lb (fun x : Nat × Nat => #[.int .i64 (x.1 : Nat), .int .i64 (x.2 : Nat)]) Kp S Sp N w0)
    (hKt : ∀ {A B C : World}, Kp A B → Kp B C → Kp A C) (hKb : ∀ (W : World) (l : Nat) (o o' : Obj), w.heap.size ≤ l → W.heap[l]? = some o → o.isCells = false → o.isWalk = false → Kp W (W.putObj l o')) (hb0 : Below w0.heap.size w0 w)
    (I : List (Nat × Nat) → World → Prop) (Ix : Code → List (Nat × Nat) → World → Prop) (hI : OwnFrom w.heap.size I) (hIx : ∀ c, OwnFrom w.heap.size (Ix c)) (h0 : I [] w)
    (hassign : ∀ (l : Nat) (pre : List (Nat × Nat)) (x : Nat × Nat) (W : World) (K : Act → World → Prop), I pre W → (∀ a' W', KeepsFrom w.heap.size W W' → Kp W W' → I pre W' → a' = actK a x → K a' W') →
      assign.wpIn (F.inRound l) (n - 1 - 1) P (Exit.then K (fun _ _ _ => False)) { tmps := ((#[10, 11] : Array Tmp).zip #[Value.int .i64 (x.1 : Nat), Value.int .i64 (x.2 : Nat)]).foldl (fun t (p, v) => t.setIfInBounds p v) a.tmps, defers := [] } W)
    (hbody : ∀ (l : Nat) (pre : List (Nat × Nat)) (x : Nat × Nat) (W : World), I pre W → pre.length < N → body.wpIn (F.inRound l) (n - 1 - 1) P (ownPostG w.heap.size Kp I Ix (pre ++ [x]) W) (actK a x) W)
    (hdone : ∀ (D : Nat) (xs : List (Nat × Nat)) (W : World), w.heap.size ≤ D → S xs → I xs W → W.heap[D]? = some (.deferred (some [])) → Q .normal { a with defers := { target := .collected D, args := #[] } :: a.defers } W)
    (hstop : ∀ (D : Nat) (c : Code) (pre : List (Nat × Nat)) (W : World), w.heap.size ≤ D → Sp pre → Ix c pre W → W.heap[D]? = some (.deferred (some [])) → c.wpIn F n P Q { a with defers := { target := .collected D, args := #[] } :: a.defers } W) :
    (Code.rangeFunc g #[10, 11] assign body).wpIn F n P Q a w :=
  wpIn_rangeFunc_ownH hro h1 hg hFg eg hseq hKt hKb hb0 (fun _ => rfl) I Ix hI hIx h0 (fun x a' _ => a' = actK a x) (fun x a' => ownFrom_pure _ (fun _ => a' = actK a x))
    (fun l pre x W K hi hk => hassign l pre x W K hi hk) (fun l pre x a' W _ _ h3 h4 h5 => by subst h4; exact hbody l pre x W h3 h5) hdone hstop
set_option maxRecDepth 100000 in
set_option maxHeartbeats 8000000 in
theorem runs1_in (n : Nat) (hn : 3 ≤ n) (lp Bs Bt g N : Nat) (s : ByteArray) (hs : s.size ≤ 9223372036854775807) (A B C : List Sp) (hRA : Rgt A) (hRB : Rgt B) (hRC : Rgt C) (X : Nat → Obj → Prop) (w0 W : World)
    (hX : ∀ k u, X k u → w0.heap.size ≤ k ∧ (k < W.heap.size ∨ RowO u)) (hT : TabAt w0 g A B C) (hG : GL w0) (J Jx : List Rn → World → Prop) (K : List (Nat × Nat)) (hKd : K = kindsL A B C (items 0 (tl s)))
    (hN : (items 0 (tl s)).length < N) (hJ : AbidesC W.heap.size 2 J) (hJx : AbidesC W.heap.size 2 Jx)
    (hY : ∀ pre x W1, J pre W1 → pre.length < N → W.heap.size + 2 ≤ W1.heap.size → YieldAt Fence.wide (n - 1) Tryd.prog lp #[rnv x] W1 fun e W' => KeepsFrom W.heap.size W1 W' ∧
      ((e = .returned (.bool true) ∧ J (pre ++ [x]) W' ∧ KpX X W1 W') ∨ (e = .returned (.bool false) ∧ Jx (pre ++ [x]) W')))
    (hBs : Boxed W Bs 9 (.string s)) (hBt : Boxed W Bt 22 (.pointer (some ⟨g, 0, none⟩))) (hXs : ¬ X Bs (.cells #[.string s] 9)) (hK : KpX X w0 W) (h0 : J [] W) :
    CallsIn Fence.wide n Tryd.prog 27 #[.func (.yield lp) #[] #[], .pointer (some ⟨Bt, 0, none⟩), .pointer (some ⟨Bs, 0, none⟩)] W fun e W' => (∃ v, e = .returned v) ∧
      ((∃ ys, ys = runsL K s.size ∧ J ys W') ∨ (∃ pre, pre <+: runsL K s.size ∧ Jx pre W')) := by
  have h1 : 1 ≤ n := by omega
  refine callsIn_of_wp_marks Tryd.func27 rfl trivial ?_ rfl
  simp only [Tryd.ntmps27, List.size_toArray, List.length_cons, List.length_nil, Nat.reduceAdd, Nat.reduceSub, Array.replicate_succ, Array.replicate_zero, List.push_toArray, List.append_toArray, List.nil_append, List.cons_append]
  have hBt2 := fun o o' => cell_alloc_s (cell_alloc_s hBt.cell o) o'
  have hBs2 := fun o o' => cell_alloc_s (cell_alloc_s hBs.cell o) o'
  have b2 : Below W.heap.size W ((W.alloc (.cells #[.func (.yield lp) #[] #[]] 78)).alloc (.cells #[.int .i64 0, .int .i64 0, .int .i64 0, .int .i64 0] 39)) := ((Below.refl _ W).alloc (Nat.le_refl _) _).alloc (by simp) _
  have rA : RunAt ((W.alloc (.cells #[.func (.yield lp) #[] #[]] 78)).alloc (.cells #[.int .i64 0, .int .i64 0, .int .i64 0, .int .i64 0] 39)) (W.heap.size + 1) ⟨0, 0, 0, 0⟩ := by
    have := heap_alloc_new (W.alloc (.cells #[.func (.yield lp) #[] #[]] 78)) (.cells #[.int .i64 0, .int .i64 0, .int .i64 0, .int .i64 0] 39)
    rw [World.size_alloc] at this
    exact this
  have yB : Boxed ((W.alloc (.cells #[.func (.yield lp) #[] #[]] 78)).alloc (.cells #[.int .i64 0, .int .i64 0, .int .i64 0, .int .i64 0] 39)) W.heap.size 78 (.func (.yield lp) #[] #[]) := (Boxed.new W 78 _).alloc _
  gi_wp2_with fail
  refine ⟨trivial, (kinds_in _ g s _).mono ?_⟩
  rintro e V3 ⟨rfl, hV3⟩
  obtain ⟨V2, hV2⟩ : ∃ V2, V2 = (W.alloc (.cells #[.func (.yield lp) #[] #[]] 78)).alloc (.cells #[.int .i64 0, .int .i64 0, .int .i64 0, .int .i64 0] 39) := ⟨_, rfl⟩
  have z2 : V2.heap.size = W.heap.size + 2 := by rw [hV2]; simp
  rw [← hV2] at hV3 b2 rA yB
  simp only [← hV2, z2]
  have b23 : Below V2.heap.size V2 V3 := by rw [hV3]; exact ((Below.refl _ V2).alloc (Nat.le_refl _) _).alloc (by simp) _
  have z3 : V3.heap.size = W.heap.size + 4 := by rw [hV3]; simp; omega
  have kt : Boxed V3 (W.heap.size + 2) 22 (.pointer (some ⟨g, 0, none⟩)) := by
    rw [hV3, ← z2]; exact (Boxed.new V2 22 (.pointer (some ⟨g, 0, none⟩))).alloc _
  have ks : Boxed V3 (W.heap.size + 2 + 1) 9 (.string s) := by
    have := Boxed.new (V2.alloc (.cells #[.pointer (some ⟨g, 0, none⟩)] 22)) 9 (.string s)
    rw [World.size_alloc, z2] at this
    rw [hV3]; exact this
  have rA3 : RunAt V3 (W.heap.size + 1) ⟨0, 0, 0, 0⟩ := (b23.block _ (by omega)).trans rA
  have yB3 : Boxed V3 W.heap.size 78 (.func (.yield lp) #[] #[]) := (b23.block _ (by omega)).trans yB
  have b3 := b2.trans (b23.mono b2.size)
  have hs3 : Boxed V3 Bs 9 (.string s) := (b3.block Bs hBs.lt).trans hBs
  obtain ⟨Y, hYd⟩ : ∃ Y : Nat → Obj → Prop, Y = fun k u => X k u ∨ k = W.heap.size + 1 := ⟨_, rfl⟩
  have hYX : ∀ k u, X k u → Y k u := fun k u h => by rw [hYd]; exact .inl h
  have hY1 : ∀ u, Y (W.heap.size + 1) u := fun u => by rw [hYd]; exact .inr rfl
  have hYk : ∀ k u, Y k u → w0.heap.size ≤ k ∧ (k < V3.heap.size ∨ RowO u) := fun k u h => by
    rw [hYd] at h
    rcases h with h | h
    · obtain ⟨h1, h2 | h2⟩ := hX k u h
      · exact ⟨h1, .inl (by omega)⟩
      · exact ⟨h1, .inr h2⟩
    · have := hK.1
      exact ⟨by omega, .inl (by omega)⟩
  have hYn : ∀ k u, ¬ X k u → k ≠ W.heap.size + 1 → ¬ Y k u := fun k u h1 h2 h => by
    rw [hYd] at h
    rcases h with h | h
    · exact h1 h
    · exact h2 h
  have lts : Bs < W.heap.size := hBs.lt
  have hXn : ∀ k u, W.heap.size ≤ k → ¬ RowO u → ¬ X k u := fun k u h1 h2 h => by
    rcases (hX k u h).2 with h3 | h3
    · omega
    · exact h2 h3
  have nR : ∀ (v : Value) (t : TypeId), t ≠ 39 → ¬ RowO (.cells #[v] t) := fun v t ht h => by
    obtain ⟨c, fr, h, _⟩ := h
    injection h with _ h _
    exact ht h
  have hK3 : KpX Y w0 V3 := (hK.more hYX).trans (KpX.of_below b3 |>.more hYX)
  have hJ3 : J [] V3 := hJ _ _ _ none h0 (grown_below b3) (fun r e => by cases e)
  have hj : ∀ (pre : List Rn) (U U' : World), J pre U → Below U.heap.size U U' → J pre U' := fun pre U U' h1 h2 => hJ _ _ _ none h1 (grown_below h2) (fun r e => by cases e)
  have hjs : ∀ (pre : List Rn) (U : World) (o : Nat) (v : Value), J pre U → J pre (U.setCell ⟨W.heap.size + 1, o, none⟩ v) := fun pre U o v h1 => hJ _ _ _ (some (W.heap.size + 1)) h1 (grown_set U _ o v) (fun r e => by cases e; exact ⟨by omega, .inr (by omega)⟩)
  have hst := kinds_stops (n - 1) (by omega) (W.heap.size + 2 + 1) (W.heap.size + 2) g s hs A B C hRA hRB hRC Y w0 V3 hYk hT hG ks kt (hYn _ _ (hXn _ _ (by omega) (nR _ _ (by decide))) (by omega)) (hYn _ _ (hXn _ _ (by omega) (nR _ _ (by decide))) (by omega)) hK3
  have hKl : K.length = (items 0 (tl s)).length := by rw [hKd]; simp [kindsL]
  rw [← hKd] at hst
  clear hV3 hV2 b23 b2 hBt2 hBs2 rA yB hKd kt ks
  gi_wp2_with fail
  obtain ⟨R, hR⟩ : ∃ R, R = W.heap.size + 1 := ⟨_, rfl⟩
  have HRr : Hid (R = W.heap.size + 1) := hR
  have hRn : R ≠ W.heap.size := by omega
  rw [← hR] at rA3 hY1 hjs ⊢
  have hYY : ∀ k u, ¬ X k u → k ≠ R → ¬ Y k u := fun k u h1 h2 => hYn k u h1 (by rw [← hR]; exact h2)
  have hRX : ∀ v0 v1 v2 v3, ¬ X R (.cells #[v0, v1, v2, v3] 39) := fun v0 v1 v2 v3 => hXn R _ (by omega) (fun h => by
    obtain ⟨c, fr, h, h4⟩ := h
    injection h with h _ _
    rw [← h] at h4
    exact h4 rfl)
  have hRV : R < V3.heap.size := by omega
  have hWV : W.heap.size + 2 ≤ V3.heap.size := by omega
  have hI2 := items_length (tl s) 0
  rw [tl_len] at hI2
  clear hYn hR hYd
  refine range_kinds rfl h1 (gf := 41) (lb := #[.pointer (some ⟨W.heap.size + 2 + 1, 0, none⟩), .pointer (some ⟨W.heap.size + 2, 0, none⟩)]) rfl trivial (enters_of Tryd.func41 (by kernel_rfl) rfl)
    hst KpX.trans (fun U l o o' _ h2 h3 h4 => KpX.putObj U l o o' h2 h3 h4) (Below.refl _ _)
    (fun pre U => J (stL pre).1 U ∧ RunAt U R (stL pre).2 ∧ KpX Y V3 U)
    (fun c pre U => c = .ret ∧ ∃ q, (pre <+: K → q <+: runsL K s.size) ∧ Jx q U)
    ?own ?ownx ⟨hJ3, rA3, KpX.refl _ _⟩ ?assign ?body ?done ?stop
  case own =>
    intro pre U U' row h hg hr
    refine ⟨hJ _ _ _ row h.1 hg (fun r e => ⟨by have := (hr r e).1; omega, .inl (hr r e).2⟩), (hg.block R (Array.getElem?_eq_some_iff.1 h.2.1).1 (fun e => by have := (hr R e.symm).1; omega)).trans h.2.1, Nat.le_trans h.2.2.1 hg.size, fun k o hx hk ho => ?_⟩
    have hk' := h.2.2.2 k o hx hk ho
    exact (hg.block k (Array.getElem?_eq_some_iff.1 hk').1 (fun e => by have := (hr k e.symm).1; have := (Array.getElem?_eq_some_iff.1 hk).1; omega)).trans hk'
  case ownx =>
    intro c pre U U' row h hg hr
    obtain ⟨h1, q, h2, h3⟩ := h
    exact ⟨h1, q, h2, hJx _ _ _ row h3 hg (fun r e => ⟨by have := (hr r e).1; omega, .inl (hr r e).2⟩)⟩
  case assign =>
    rintro l pre x U K' hi hK'
    gi_wp2
    exact hK' _ _ ((KeepsOthers.refl U).from _) (KpX.refl _ _) hi rfl
  case body =>
    rintro l pre ⟨at_, kd⟩ U ⟨hj1, hr1, hk1⟩ hlt
    simp only [actK, List.setIfInBounds_toArray, List.set_cons_succ, List.set_cons_zero]
    have hsn := stL_snoc pre (at_, kd)
    have hout := fun h => stL_out (pre := pre) (K := K) (x := (at_, kd)) h s.size
    have hle := stL_len pre
    have hln := stL_n pre
    have hto := stL_too pre
    obtain ⟨⟨done, ⟨ck, cf, ct, cn⟩⟩, hst'⟩ : ∃ st, st = stL pre := ⟨_, rfl⟩
    rw [← hst'] at hsn hout hle hln hj1 hr1 hto
    simp only at hout hle hln hto
    subst hto
    obtain ⟨c0, c1, c2, c3⟩ := hr1.cells
    have f0 := fun j => unfrozen_of_block hr1 j
    simp only at c0 c1 c2 c3
    have yU : Boxed U W.heap.size 78 (.func (.yield lp) #[] #[]) := hk1.2 _ _ (hYY _ _ (hXn _ _ (Nat.le_refl _) (nR _ _ (by decide))) (fun e => hRn e.symm)) yB3 (.inl rfl)
    have cy := yU.cell
    have HR1 : Hid (RunAt U R ⟨ck, cf, 0, cn⟩) := hr1
    have hsz : V3.heap.size ≤ U.heap.size := hk1.1
    clear hst' hr1
    by_cases hk : kd = ck
    · subst hk
      have q1 : ((kd : Int) != (kd : Int)) = false := by simp
      have HSN : Hid (stL (pre ++ [(at_, kd)]) = (done, ⟨kd, cf, 0, cn + 1⟩)) := by show _ = _; rw [hsn]; unfold stp; simp
      clear hsn hout
      gi_wp2_with fail
      refine ⟨(KeepsOthers.setCell _ _ _).from _, KpX.setCell _ _ _ _ hY1, ?_⟩
      show J (stL (pre ++ [(at_, kd)])).1 _ ∧ RunAt _ R (stL (pre ++ [(at_, kd)])).2 ∧ KpX Y V3 _
      rw [HSN.out]
      refine ⟨hjs _ _ _ _ hj1, ?_, hk1.trans (KpX.setCell _ _ _ _ hY1)⟩
      have := block_setCell (i := 3) HR1.out (.int .i64 ((cn : Int) + 1))
      exact this
    · have q1 : ((kd : Int) != (ck : Int)) = true := by simp; omega
      by_cases h0 : 0 < cn
      · have q2 : decide ((0 : Int) < (cn : Int)) = true := decide_eq_true (by omega)
        have HSN : Hid (stL (pre ++ [(at_, kd)]) = (done ++ [⟨ck, cf, at_, cn⟩], ⟨kd, at_, 0, 1⟩)) := by show _ = _; rw [hsn]; unfold stp; simp [hk, h0]
        have HOUT : Hid (pre ++ [(at_, kd)] <+: K → done ++ [⟨ck, cf, at_, cn⟩] <+: runsL K s.size) := fun h => hout h hk h0
        have hr2 := block_setCell (i := 2) HR1.out (.int .i64 (at_ : Nat))
        have hj2 := hjs _ U 2 (.int .i64 (at_ : Nat)) hj1
        obtain ⟨fn, tmps, assign, body, hy, hRd⟩ := hY done ⟨ck, cf, at_, cn⟩ (U.setCell ⟨R, 2, none⟩ (.int .i64 (at_ : Nat))) hj2 (by omega) (by simp; omega)
        unfold rnv at hy
        dsimp only at hy
        have HR2 : Hid ((U.setCell ⟨R, 2, none⟩ (.int .i64 (at_ : Nat))).heap[R]? = _) := hr2
        have h0i : (0 : Int) < (cn : Int) := by omega
        clear hsn hout hr2 hj2
        gi_wp2_with fail
        refine ⟨fun _ => by omega, (roundIn_any hRd).mono ?_⟩
        rintro e W5 ⟨hkf, ⟨rfl, hj5, hk5⟩ | ⟨rfl, hjx⟩⟩
        · have hr5 := hk5.2 R _ (hRX _ _ _ _) HR2.out (.inl rfl)
          have d0 := cell_of_block hr5 (i := 0)
          have d1 := cell_of_block hr5 (i := 1)
          have d2 := cell_of_block hr5 (i := 2)
          have d3 := cell_of_block hr5 (i := 3)
          have g0 := fun j => unfrozen_of_block hr5 j
          have HR5 : Hid (W5.heap[R]? = _) := hr5
          clear hr5 c0 c1 c2 c3 cy f0 yU hy hRd
          gi_wp2_with fail
          have hr9 := block_setCell (i := 3) (block_setCell (i := 3) (block_setCell (i := 2) (block_setCell (i := 1) (block_setCell (i := 0) HR5.out (.int .i64 (kd : Nat))) (.int .i64 (at_ : Nat))) (.int .i64 0)) (.int .i64 0)) (.int .i64 1)
          refine ⟨?_, ?_, ?_⟩
          · refine kf_chain ((KeepsOthers.setCell U ⟨R, 2, none⟩ _).from _) (kf_chain (kf_higher hkf (by omega)) (KeepsOthers.from ?_ _))
            exact ((((KeepsOthers.setCell W5 ⟨R, 0, none⟩ _).trans (KeepsOthers.setCell _ ⟨R, 1, none⟩ _)).trans (KeepsOthers.setCell _ ⟨R, 2, none⟩ _)).trans (KeepsOthers.setCell _ ⟨R, 3, none⟩ _)).trans (KeepsOthers.setCell _ ⟨R, 3, none⟩ _)
          · exact (KpX.setCell _ _ _ _ hY1).trans ((hk5.more hYX).trans (((((KpX.setCell W5 R 0 _ hY1).trans (KpX.setCell _ R 1 _ hY1)).trans (KpX.setCell _ R 2 _ hY1)).trans (KpX.setCell _ R 3 _ hY1)).trans (KpX.setCell _ R 3 _ hY1)))
          · show J (stL (pre ++ [(at_, kd)])).1 _ ∧ RunAt _ R (stL (pre ++ [(at_, kd)])).2 ∧ KpX Y V3 _
            rw [HSN.out]
            refine ⟨hjs _ _ _ _ (hjs _ _ _ _ (hjs _ _ _ _ (hjs _ _ _ _ (hjs _ _ _ _ hj5)))), hr9, ?_⟩
            exact hk1.trans ((KpX.setCell _ _ _ _ hY1).trans ((hk5.more hYX).trans (((((KpX.setCell W5 R 0 _ hY1).trans (KpX.setCell _ R 1 _ hY1)).trans (KpX.setCell _ R 2 _ hY1)).trans (KpX.setCell _ R 3 _ hY1)).trans (KpX.setCell _ R 3 _ hY1))))
        · clear c0 c1 c2 c3 cy f0 yU hy hRd
          gi_wp2_with fail
          exact ⟨kf_chain ((KeepsOthers.setCell U ⟨R, 2, none⟩ _).from _) (kf_higher hkf (by omega)), rfl, _, HOUT.out, hjx⟩
      · obtain rfl : cn = 0 := by omega
        rw [show ((0 : Nat) : Int) = 0 from rfl] at c3
        have HSN : Hid (stL (pre ++ [(at_, kd)]) = (done, ⟨kd, at_, 0, 1⟩)) := by show _ = _; rw [hsn]; unfold stp; simp [hk, h0]
        clear hsn hout h0
        gi_wp2_with fail
        refine ⟨fun _ h => (by cases h), ?_⟩
        gi_wp2_with fail
        have hr9 := block_setCell (i := 3) (block_setCell (i := 3) (block_setCell (i := 2) (block_setCell (i := 1) (block_setCell (i := 0) (block_setCell (i := 2) HR1.out (.int .i64 (at_ : Nat))) (.int .i64 (kd : Nat))) (.int .i64 (at_ : Nat))) (.int .i64 0)) (.int .i64 0)) (.int .i64 1)
        refine ⟨?_, ?_, ?_⟩
        · exact ((((((KeepsOthers.setCell U ⟨R, 2, none⟩ _).trans (KeepsOthers.setCell _ ⟨R, 0, none⟩ _)).trans (KeepsOthers.setCell _ ⟨R, 1, none⟩ _)).trans (KeepsOthers.setCell _ ⟨R, 2, none⟩ _)).trans (KeepsOthers.setCell _ ⟨R, 3, none⟩ _)).trans (KeepsOthers.setCell _ ⟨R, 3, none⟩ _)).from _
        · exact (((((KpX.setCell U R 2 _ hY1).trans (KpX.setCell _ R 0 _ hY1)).trans (KpX.setCell _ R 1 _ hY1)).trans (KpX.setCell _ R 2 _ hY1)).trans (KpX.setCell _ R 3 _ hY1)).trans (KpX.setCell _ R 3 _ hY1)
        · show J (stL (pre ++ [(at_, kd)])).1 _ ∧ RunAt _ R (stL (pre ++ [(at_, kd)])).2 ∧ KpX Y V3 _
          rw [HSN.out]
          refine ⟨hjs _ _ _ _ (hjs _ _ _ _ (hjs _ _ _ _ (hjs _ _ _ _ (hjs _ _ _ _ (hjs _ _ _ _ hj1))))), hr9, ?_⟩
          exact hk1.trans ((((((KpX.setCell U R 2 _ hY1).trans (KpX.setCell _ R 0 _ hY1)).trans (KpX.setCell _ R 1 _ hY1)).trans (KpX.setCell _ R 2 _ hY1)).trans (KpX.setCell _ R 3 _ hY1)).trans (KpX.setCell _ R 3 _ hY1))
  case done =>
    rintro D ys U hD rfl ⟨hj1, hr1, hk1⟩ hDk
    have hle := stL_len ys
    have hfin : runsL ys s.size = finL (stL ys) s.size := rfl
    obtain ⟨⟨done, ⟨ck, cf, ct, cn⟩⟩, hst'⟩ : ∃ st, st = stL ys := ⟨_, rfl⟩
    rw [← hst'] at hle hj1 hr1 hfin
    simp only at hle hj1
    obtain ⟨c0, c1, c2, c3⟩ := hr1.cells
    have f0 := fun j => unfrozen_of_block hr1 j
    simp only at c0 c1 c2 c3
    have yU : Boxed U W.heap.size 78 (.func (.yield lp) #[] #[]) := hk1.2 _ _ (hYY _ _ (hXn _ _ (Nat.le_refl _) (nR _ _ (by decide))) (fun e => hRn e.symm)) yB3 (.inl rfl)
    have cy := yU.cell
    have cs := Boxed.cell (hk1.2 _ _ (hYY _ _ hXs (by have := HRr.out; omega)) hs3 (.inl rfl))
    have HR1 : Hid (RunAt U R ⟨ck, cf, ct, cn⟩) := hr1
    have hsz : V3.heap.size ≤ U.heap.size := hk1.1
    clear hst' hr1
    by_cases h0 : 0 < cn
    · have HFN : Hid (runsL ys s.size = done ++ [⟨ck, cf, s.size, cn⟩]) := by show _ = _; rw [hfin]; unfold finL; simp [h0]
      have hr2 := block_setCell (i := 2) HR1.out (.int .i64 (s.size : Nat))
      have hj2 := hjs _ U 2 (.int .i64 (s.size : Nat)) hj1
      obtain ⟨fn, tmps, assign, body, hy, hRd⟩ := hY done ⟨ck, cf, s.size, cn⟩ (U.setCell ⟨R, 2, none⟩ (.int .i64 (s.size : Nat))) hj2 (by omega) (by simp; omega)
      unfold rnv at hy
      dsimp only at hy
      have h0i : (0 : Int) < (cn : Int) := by omega
      have q2 : decide ((0 : Int) < (cn : Int)) = true := decide_eq_true h0i
      clear hfin hr2 hj2
      gi_wp2_with fail
      refine (roundIn_deep hRd).mono ?_
      have hDk2 := (KeepsOthers.setCell U ⟨R, 2, none⟩ (.int .i64 (s.size : Nat))).same D _ hDk rfl
      rintro e W5 ⟨hkf, ⟨rfl, hj5, hk5⟩ | ⟨rfl, hjx⟩⟩
      · gi_wp2_with fail
        have hDk5 := hkf.same D _ (by omega) hDk2 rfl
        refine ⟨by simp, .inl ⟨D, _, rfl, run_takeDeferred hDk5, ?_⟩⟩
        exact ⟨_, results_none rfl _ _ _, ⟨_, rfl⟩, .inl ⟨_, HFN.out.symm, hJ _ _ _ (some D) hj5 (grownBy_putObj' W5 D _) (fun r e => by cases e; exact ⟨by omega, .inl ⟨_, hDk5, rfl⟩⟩)⟩⟩
      · gi_wp2_with fail
        have hDk5 := hkf.same D _ (by omega) hDk2 rfl
        refine ⟨by simp, .inl ⟨D, _, rfl, run_takeDeferred hDk5, ?_⟩⟩
        exact ⟨_, results_none rfl _ _ _, ⟨_, rfl⟩, .inr ⟨_, by rw [HFN.out]; exact List.prefix_refl _, hJx _ _ _ (some D) hjx (grownBy_putObj' W5 D _) (fun r e => by cases e; exact ⟨by omega, .inl ⟨_, hDk5, rfl⟩⟩)⟩⟩
    · obtain rfl : cn = 0 := by omega
      rw [show ((0 : Nat) : Int) = 0 from rfl] at c3
      have HFN : Hid (runsL ys s.size = done) := by show _ = _; rw [hfin]; unfold finL; simp
      have hDk2 := (KeepsOthers.setCell U ⟨R, 2, none⟩ (.int .i64 (s.size : Nat))).same D _ hDk rfl
      have hj2 := hjs _ U 2 (.int .i64 (s.size : Nat)) hj1
      clear hfin h0
      gi_wp2_with fail
      refine ⟨by simp, .inl ⟨D, _, rfl, run_takeDeferred hDk2, ?_⟩⟩
      exact ⟨_, results_none rfl _ _ _, ⟨_, rfl⟩, .inl ⟨_, HFN.out.symm, hJ _ _ _ (some D) hj2 (grownBy_putObj' _ D _) (fun r e => by cases e; exact ⟨by omega, .inl ⟨_, hDk2, rfl⟩⟩)⟩⟩
  case stop =>
    rintro D c pre U hD hp ⟨rfl, q, hq, hjx⟩ hDk
    gi_wp2_with fail
    refine ⟨by simp, .inl ⟨D, _, rfl, run_takeDeferred hDk, ?_⟩⟩
    exact ⟨_, results_none rfl _ _ _, ⟨_, rfl⟩, .inr ⟨_, hq hp, hJx _ _ _ (some D) hjx (grownBy_putObj' U D _) (fun r e => by cases e; exact ⟨by omega, .inl ⟨_, hDk, rfl⟩⟩)⟩⟩
/-- classes.Runs: its captured boxes. -/
theorem runs_in (n : Nat) (g : Nat) (s : ByteArray) (w : World) :
    CallsIn Fence.wide n Tryd.prog 11 #[.pointer (some ⟨g, 0, none⟩), .string s] w fun e w' => e = .returned (.func (.func 27) #[] #[.pointer (some ⟨w.heap.size, 0, none⟩), .pointer (some ⟨w.heap.size + 1, 0, none⟩)]) ∧ w' = (w.alloc (.cells #[.pointer (some ⟨g, 0, none⟩)] 22)).alloc (.cells #[.string s] 9) := by
  refine callsIn_of_wp Tryd.func11 rfl trivial ?_ rfl
  simp only [Tryd.ntmps11, List.size_toArray, List.length_cons, List.length_nil, Nat.reduceAdd, Nat.reduceSub, Array.replicate_succ, Array.replicate_zero, List.push_toArray, List.append_toArray, List.nil_append, List.cons_append]
  gi_wp2
  go_ret
  exact ⟨rfl, rfl⟩
theorem runs_stops (n : Nat) (hn : 3 ≤ n) (Bs Bt g : Nat) (s : ByteArray) (hs : s.size ≤ 9223372036854775807) (A B C : List Sp) (hRA : Rgt A) (hRB : Rgt B) (hRC : Rgt C) (X : Nat → Obj → Prop) (w0 w : World)
    (hX : ∀ k u, X k u → w0.heap.size ≤ k ∧ (k < w.heap.size ∨ RowO u)) (hT : TabAt w0 g A B C) (hG : GL w0) (hBs : Boxed w Bs 9 (.string s)) (hBt : Boxed w Bt 22 (.pointer (some ⟨g, 0, none⟩))) (hXs : ¬ X Bs (.cells #[.string s] 9)) (hK : KpX X w0 w) (N : Nat) (hN : (items 0 (tl s)).length < N) :
    SeqStopsC Fence.wide n Tryd.prog 27 #[.pointer (some ⟨Bt, 0, none⟩), .pointer (some ⟨Bs, 0, none⟩)] (fun x : Rn => #[rnv x]) (KpX X) (fun ys => ys = runsL (kindsL A B C (items 0 (tl s))) s.size) (fun pre => pre <+: runsL (kindsL A B C (items 0 (tl s))) s.size) N 2 w := fun lp J Jx W hW hJ hJx hY h0 =>
  runs1_in n hn lp Bs Bt g N s hs A B C hRA hRB hRC X w0 W (fun k u h => ⟨(hX k u h).1, (hX k u h).2.imp_left fun h => Nat.lt_of_lt_of_le h hW.size⟩) hT hG J Jx _ rfl hN hJ hJx hY
    ((hW.block Bs hBs.lt).trans hBs) ((hW.block Bt hBt.lt).trans hBt) hXs (hK.trans (KpX.of_below hW)) h0
end Go.Proofs.YtddeamecgbdajaaDoor
