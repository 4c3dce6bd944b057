import Derived.Test.YtjbdhakogbolkaaDoorJ22
import Derived.Test.YtjbdhakogbolkaaDoorJ18
section
/- BpeMerges: aids. -/
namespace Go.Proofs.YtjbdhakogbolkaaDoor
open Go.RowKit Go.Shelf Go.Lib
open Go.Joins Go.Sort
set_option linter.unusedVariables false
set_option linter.unusedSimpArgs false
theorem HL_two {P : Program} {md : Region.Mode} {ops : Array Oper} {Q : Exit → Act → World → Prop} {S : World → Prop} {n : Nat} {L : Array Bool → Act → World → Prop} {i j : Nat} {o o' : Oper} {f : Nat} {listed : Array Bool} {a : Act} {w : World} (hi : ops[i]? = some o) (hj : ops[j]? = some o') (hin : i < n) (hjn : j < n) (hr : Region.ready md ops listed = [i, j]) (hg : o.guard = none) (hg' : o'.guard = none)
    (h : o.wp P a w (fun a' w' => S w' ∧ HL P md ops Q S n L f (listed.setIfInBounds i true) a' w') Q) (h' : o'.wp P a w (fun a' w' => S w' ∧ HL P md ops Q S n L f (listed.setIfInBounds j true) a' w') Q) : HL P md ops Q S n L (f + 1) listed a w := by
  refine ⟨by rw [hr]; exact List.cons_ne_nil _ _, fun k hk => ?_⟩
  rw [hr] at hk
  have hk' : k = i ∨ k = j := by simpa using hk
  rcases hk' with rfl | rfl
  · refine ⟨hin, ?_⟩
    unfold wpOp
    simp only [hi, Region.wanted, hg, if_true]
    exact .inl h
  · refine ⟨hjn, ?_⟩
    unfold wpOp
    simp only [hj, Region.wanted, hg', if_true]
    exact .inl h'
/-- An end with a name. -/
def QN {ι : Type} (g : ι → Act) (R : ι → World → Prop) (e : Exit) (a' : Act) (W : World) : Prop := e = .normal ∧ ∃ i, a' = g i ∧ R i W
theorem QN.no {ι : Type} {g : ι → Act} {R : ι → World → Prop} {c : List PanicEntry} {a a' : Act} {W : World} (h : QN g R (.panic c) a' W) : QN g R (.panic c) a W := nomatch h.1
theorem wpIn_named {ι : Type} {F : Fence} {n : Nat} {P : Program} {c : Code} {K : Act → World → Prop} {Q : Exit → Act → World → Prop} {a : Act} {w : World} (f : Act → ι → Act) (R : ι → World → Prop) (h : c.wpIn F n P (QN (f a) R) a w) (hk : ∀ i W, R i W → K (f a i) W) : c.wpIn F n P (Exit.then K Q) a w :=
  wpIn_mono h (by
    rintro e a' W ⟨rfl, i, rfl, hr⟩
    exact hk i W hr)
theorem RowS.kept {w w' : World} {base : Nat} {v : Value} {l : List (Nat × Nat)} (h : RowS w base v l) (hb : ∀ k o, base ≤ k → w.heap[k]? = some o → (∃ cs, o = .cells cs 55 (0, 0)) → w'.heap[k]? = some o) : RowS w' base v l :=
  ⟨h.1, by
    rcases h.2 with h0 | ⟨b, cap, cur, e, hbb, hh, rr⟩
    · exact .inl h0
    · exact .inr ⟨b, cap, cur, e, hbb, hb b _ hbb hh ⟨_, rfl⟩, rr⟩⟩
theorem RowN.low {w : World} {base base' : Nat} {v : Value} {l : List Int} (h : RowN w base v l) (hb : base' ≤ base) : RowN w base' v l :=
  ⟨h.1, by
    rcases h.2 with h0 | ⟨b, cap, cur, e, hbb, rr⟩
    · exact .inl h0
    · exact .inr ⟨b, cap, cur, e, by omega, rr⟩⟩
theorem RowS.low {w : World} {base base' : Nat} {v : Value} {l : List (Nat × Nat)} (h : RowS w base v l) (hb : base' ≤ base) : RowS w base' v l :=
  ⟨h.1, by
    rcases h.2 with h0 | ⟨b, cap, cur, e, hbb, rr⟩
    · exact .inl h0
    · exact .inr ⟨b, cap, cur, e, by omega, rr⟩⟩
/-- What region 5 ends in. -/
def R5 (ms : List Mg) (s : ByteArray) (w1 : World) (i : Value × Value × Value × Nat) (W : World) : Prop :=
  ∃ l st, RowN W w1.heap.size i.2.1 l ∧ RowS W w1.heap.size i.2.2.1 st ∧ JR ms (byL s) st l ∧ Boxed W i.2.2.2 50 i.2.2.1 ∧ w1.heap.size ≤ i.2.2.2 ∧ Below w1.heap.size w1 W
theorem R5.store {ms : List Mg} {s : ByteArray} {w1 U : World} {vb v sv x : Value} {sb : Nat} {l : List Int} {st : List (Nat × Nat)} (h1 : RowN U w1.heap.size v l) (h2 : RowS U w1.heap.size sv st) (h3 : JR ms (byL s) st l) (h4 : Boxed U sb 50 x) (h5 : w1.heap.size ≤ sb) (h6 : Below w1.heap.size w1 U) : R5 ms s w1 (vb, v, sv, sb) (U.setCell ⟨sb, 0, none⟩ sv) := by
  refine ⟨l, st, h1.kept (fun k o _ ho ⟨cs, e⟩ => ?_), h2.kept (fun k o _ ho ⟨cs, e⟩ => ?_), h3, h4.set _, h5, h6.setCell (p := ⟨sb, 0, none⟩) h5 _⟩
  · refine (Below.heap_setCell U ⟨sb, 0, none⟩ sv k (fun hk => ?_)).trans ho
    have hk' : k = sb := hk
    subst hk'
    rw [show U.heap[k]? = _ from h4] at ho
    rw [← Option.some.inj ho] at e
    injection e with _ ht _
    exact absurd ht (by decide)
  · refine (Below.heap_setCell U ⟨sb, 0, none⟩ sv k (fun hk => ?_)).trans ho
    have hk' : k = sb := hk
    subst hk'
    rw [show U.heap[k]? = _ from h4] at ho
    rw [← Option.some.inj ho] at e
    injection e with _ ht _
    exact absurd ht (by decide)
/-- The step that comes next is the reference's. -/
theorem JS.next {ms : List Mg} {L : List Int} {pre : List (Nat × Nat)} {cur : List Int} (h : JS ms L pre cur) {x : Nat × Nat} {i : Int} (hn : IsN ms cur x.1 x.2 i) {st : List (Nat × Nat)} {l : List Int} (hr : JR ms L st l) : st[pre.length]? = some x ∧ pre.length < st.length := by
  obtain ⟨st', r, h1⟩ := JR.ex' ms cur
  have h2 := h.on h1
  obtain ⟨rfl, rfl⟩ := hr.uniq h2
  cases h1 with
  | done hno => exact absurd hno hn.noN
  | step h3 h4 =>
    obtain ⟨e1, e2, _⟩ := h3.uniq hn
    subst e1 e2
    simp
theorem encS_flat : ∀ (st : List (Nat × Nat)) (i : Nat) (x : Nat × Nat), st[i]? = some x → (st.flatMap encS)[i * 2]? = some (.int .i64 (x.1 : Nat)) ∧ (st.flatMap encS)[i * 2 + 1]? = some (.int .i64 (x.2 : Nat))
  | [], i, x, h => by simp at h
  | y :: st, 0, x, h => by
    simp only [List.getElem?_cons_zero, Option.some.injEq] at h
    subst h
    exact ⟨rfl, rfl⟩
  | y :: st, i + 1, x, h => by
    simp only [List.getElem?_cons_succ] at h
    have := encS_flat st i x h
    rw [List.flatMap_cons, show (i + 1) * 2 = i * 2 + 2 from by omega]
    exact this
theorem RowS.at' {w : World} {base : Nat} {v : Value} {st : List (Nat × Nat)} (h : RowS w base v st) {i : Nat} {x : Nat × Nat} (hx : st[i]? = some x) : ∃ rb cap, v = .slice (some ⟨rb, 0, none⟩) st.length cap ∧ base ≤ rb ∧ w.cell? ⟨rb, i * 2, none⟩ = some (.int .i64 (x.1 : Nat)) ∧ w.cell? ⟨rb, i * 2 + 1, none⟩ = some (.int .i64 (x.2 : Nat)) := by
  have hi := (List.getElem?_eq_some_iff.1 hx).1
  rcases h.2 with ⟨rfl, h0⟩ | ⟨b, cap, cur, rfl, hb, hh, hn, hm, hcs, htk⟩
  · exfalso
    have h1 := h.1
    simp_all
  · obtain ⟨h1, h2⟩ := encS_flat st i x hx
    have g : ∀ j y, (st.flatMap encS)[j]? = some y → w.cell? ⟨b, j, none⟩ = some y := fun j y hj => by
      rw [cell_of_block hh]
      rw [← htk, List.getElem?_take] at hj
      split at hj
      · rw [← Array.getElem?_toList]; exact hj
      · cases hj
    exact ⟨b, cap, rfl, hb, g _ _ h1, g _ _ h2⟩
/-- What a turn of BpeMerges begins with. -/
structure MT (w0 wM W : World) (z sb Bm g k0 T : Nat) (sv : Value) (st : List (Nat × Nat)) (s : ByteArray) (t : Int) (Ds : List Nat) : Prop where
  res : Boxed W (z + 1 + 1) 4 (.bool false)
  stop : Boxed W (z + 1) 3 (.int .i64 (k0 : Nat))
  steps : Boxed W sb 50 sv
  row : RowS W (z + 3) sv st
  bm : Boxed W Bm 31 (.pointer (some ⟨g, 0, none⟩))
  bs : Boxed W (Bm + 1) 9 (.string s)
  turn : Boxed W T 3 (.int .i64 t)
  low : z = w0.heap.size ∧ z + 3 ≤ wM.heap.size ∧ wM.heap.size ≤ T
  bel : Below w0.heap.size w0 W
  belM : Below wM.heap.size wM W
  mks : ∀ D ∈ Ds, w0.heap.size ≤ D ∧ W.heap[D]? = some (.deferred (some []))
theorem MT.below {w0 wM W W' : World} {z sb Bm g k0 T : Nat} {sv : Value} {st : List (Nat × Nat)} {s : ByteArray} {t : Int} {Ds : List Nat} (h : MT w0 wM W z sb Bm g k0 T sv st s t Ds) (hb : Below W.heap.size W W') : MT w0 wM W' z sb Bm g k0 T sv st s t Ds :=
  ⟨boxed_below_s h.res hb, boxed_below_s h.stop hb, boxed_below_s h.steps hb, h.row.below hb, boxed_below_s h.bm hb, boxed_below_s h.bs hb, boxed_below_s h.turn hb, h.low, h.bel.trans (hb.mono h.bel.size), h.belM.trans (hb.mono h.belM.size),
    fun D hD => ⟨(h.mks D hD).1, (hb.block D (Array.getElem?_eq_some_iff.1 (h.mks D hD).2).1).trans (h.mks D hD).2⟩⟩
theorem MT.next {w0 wM W : World} {z sb Bm g k0 T : Nat} {sv : Value} {st : List (Nat × Nat)} {s : ByteArray} {t : Int} {Ds : List Nat} (h : MT w0 wM W z sb Bm g k0 T sv st s t Ds) {D : Nat} (hD : w0.heap.size ≤ D) (hk : W.heap[D]? = some (.deferred (some []))) (u : Int) :
    MT w0 wM (W.alloc (.cells #[.int .i64 u] 3)) z sb Bm g k0 W.heap.size sv st s u (D :: Ds) := by
  have hb : Below W.heap.size W (W.alloc (.cells #[.int .i64 u] 3)) := (Below.refl _ W).alloc (Nat.le_refl _) _
  have h2 := h.below hb
  refine ⟨h2.res, h2.stop, h2.steps, h2.row, h2.bm, h2.bs, Boxed.new W 3 _, ⟨h.low.1, h.low.2.1, h.belM.size⟩, h2.bel, h2.belM, fun D' hD' => ?_⟩
  rcases List.mem_cons.1 hD' with rfl | hD'
  · exact ⟨hD, (hb.block D' (Array.getElem?_eq_some_iff.1 hk).1).trans hk⟩
  · exact h2.mks D' hD'
def Mks (w0 : World) (Ds : List Nat) (W : World) : Prop := ∀ E ∈ Ds, w0.heap.size ≤ E ∧ W.heap[E]? = some (.deferred (some []))
theorem mono_named {F : Fence} {n : Nat} {P : Program} {c : Code} {Q : Exit → Act → World → Prop} {a : Act} {w : World} (R : Nat → Exit → World → Prop)
    (h : c.wpIn F n P (fun e a' W => ∃ D, a' = { a with defers := { target := .collected D, args := #[] } :: a.defers } ∧ R D e W) a w)
    (hq : ∀ D e W, R D e W → Q e { a with defers := { target := .collected D, args := #[] } :: a.defers } W) : c.wpIn F n P Q a w :=
  wpIn_mono h (by rintro e a' W ⟨D, rfl, hr⟩; exact hq D e W hr)
def actM (a : Act) (x : Nat × Nat) (b : Nat) : Act := { tmps := (a.tmps.setIfInBounds 67 (valS x)).setIfInBounds 17 (.pointer (some ⟨b, 0, none⟩)), defers := [] }
def sO (x : Nat × Nat) : Obj := .cells #[.int .i64 (x.1 : Nat), .int .i64 (x.2 : Nat)] 45
theorem KpS.setBox {M0 B0 : Nat} {U : World} {b : Nat} {v : Value} (h : Boxed U b 3 v) (hM : M0 ≤ b) (hB : b < B0) (x : Value) : KpS M0 B0 U (U.setCell ⟨b, 0, none⟩ x) :=
  ⟨rfl, rfl, rfl, by simp, fun k hk => Below.heap_setCell U ⟨b, 0, none⟩ x k (fun e => by have e' : k = b := e; omega), fun k o ho _ hk => (Below.heap_setCell U ⟨b, 0, none⟩ x k (fun e => by
    have e' : k = b := e
    subst e'
    rcases ho with ho | ⟨cs, fr, ho⟩
    · omega
    · rw [show U.heap[k]? = _ from h] at hk
      rw [← Option.some.inj hk] at ho
      injection ho with _ ht _
      exact absurd ht (by decide))).trans hk⟩
theorem RowS.shape {w : World} {base : Nat} {v : Value} {st : List (Nat × Nat)} (h : RowS w base v st) : ∃ a c, v = .slice a st.length c := by
  rcases h.2 with ⟨rfl, h0⟩ | ⟨b, cap, cur, rfl, _⟩
  · exact ⟨none, 0, by rw [h0]⟩
  · exact ⟨_, _, rfl⟩
theorem grown_b {W U U' : World} {row : Option Nat} {B : Nat} (h : Below B W U) (hg : U.grownBy U' row) (hB : B ≤ U.heap.size) (hr : ∀ r, row = some r → B ≤ r) : Below B W U' :=
  h.trans ⟨hg.os, hg.tape, hg.output, hg.size, fun k hk => hg.block k (by omega) (fun e => by have := hr k e.symm; omega)⟩
theorem grown_box {U U' : World} {row : Option Nat} {b : Nat} {t : TypeId} {v : Value} (h : Boxed U b t v) (hg : U.grownBy U' row) (hr : ∀ r, row = some r → b < r) : Boxed U' b t v :=
  (hg.block b h.lt (fun e => by have := hr b e.symm; omega)).trans h
end Go.Proofs.YtjbdhakogbolkaaDoor
end
