import Derived.Test.YtplmmamebfpcjaaDoorJ9
import Derived.OrdersHeld
import Derived.Test.YtplmmamebfpcjaaDoorJ12
import Derived.Test.YtplmmamebfpcjaaDoorJ13
section
/- RMono's law once more, for a tail that waits for the head through the head itself. -/
namespace Go.Proofs.YtplmmamebfpcjaaDoor
open Go.RowKit
section
variable {P : Program} {ops : Array Oper} {md : Region.Mode}
/-- What lies behind the head waits for it: itself, or through what it waits for. -/
def tailB2 (md : Region.Mode) (ops : Array Oper) (n k : Nat) : Bool :=
  (List.range ops.size).all fun t => decide (t < k) || ((List.range n).all fun i => Region.waitsFor md ops t i || (List.range n).any fun j => decide (i < j) && Region.waitsFor md ops j i) || (List.range t).any fun j => decide (k ≤ j) && Region.waitsFor md ops t j
def monoB2 (md : Region.Mode) (ops : Array Oper) (n k : Nat) (ds : List Nat) : Bool :=
  decide (ds.length = n) && decide (n ≤ k) && decide (k ≤ ops.size) && tailB2 md ops n k &&
  Region.seqB md ops (ops.size - k) k (Array.replicate k true ++ Array.replicate (ops.size - k) false) && nodupB ds &&
  ((List.range n).all fun i => match ops[i]? with
    | some o => (depsOf md o).all (fun j => decide (j < i)) && decide (o.dst = ds[i]?)
    | none => false)
structure MInv2 (md : Region.Mode) (ops : Array Oper) (n k : Nat) (T : List (Value → World → Prop)) (ds : List Nat) (a0 : Act) (W : World) (listed : Array Bool) (a : Act) (w : World) : Prop where
  size : listed.size = ops.size
  pre : ∀ t, n ≤ t → t < k → listed.getD t false = true
  tail : ∀ t, k ≤ t → t < ops.size → listed.getD t true = false
  bel : Below W.heap.size W w
  frame : FrameEq ds a0 a
  rows : ∀ (i : Nat), i < n → listed.getD i false = true → rowAt T ds i a w
  closed : ∀ (i : Nat) (o : Oper), i < n → listed.getD i false = true → ops[i]? = some o → ∀ e ∈ o.after, Region.binds md e = true → listed.getD e.on false = true
theorem wpAny_mono2 {n k : Nat} {T : List (Value → World → Prop)} {ds : List Nat} {a0 : Act} {W : World} {l : List Oper} {Q : Exit → Act → World → Prop} (hl : l.toArray = ops) (hT : T.length = n) (hB : monoB2 md ops n k ds = true)
    (hin0 : ∀ d ∈ ds, d < a0.tmps.size) (hst : ∀ φ ∈ T, ∀ v w w', Below w.heap.size w w' → φ v w → φ v w') (hs : stepsM P md ops T ds a0 W T l)
    (hf : ∀ a, FrameEq ds a0 a → ∀ w, Below W.heap.size W w → (∀ (i : Nat), rowAt T ds i a w) → wpList P ops Q (l.drop k) a w) :
    ∀ (m : Nat) (listed : Array Bool) (a : Act) (w : World), cntU n listed = m → MInv2 md ops n k T ds a0 W listed a w → wpAny P md ops Q (m + (ops.size - k)) listed a w := by
  unfold monoB2 at hB
  simp only [Bool.and_eq_true, decide_eq_true_eq] at hB
  obtain ⟨⟨⟨⟨⟨⟨hlen, hnk⟩, hk⟩, htail⟩, hseq⟩, hnd⟩, hops⟩ := hB
  have hn : n ≤ ops.size := Nat.le_trans hnk hk
  have hlsz : l.length = ops.size := by rw [← hl]; simp
  intro m
  induction m with
  | zero =>
    intro listed a w hc inv
    have hall := cntU_zero n listed hc
    have hli : listed = Array.replicate k true ++ Array.replicate (ops.size - k) false := by
      refine Array.ext (by rw [inv.size]; simp; omega) fun i h1 h2 => ?_
      have hi : i < ops.size := by rw [← inv.size]; exact h1
      by_cases hik : i < k
      · have : listed.getD i false = true := by
          by_cases hin : i < n
          · exact hall i hin
          · exact inv.pre i (by omega) hik
        rw [Array.getElem_append_left (by simpa using hik)]
        simp [h1] at this
        simp [this]
      · have := inv.tail i (by omega) hi
        rw [Array.getElem_append_right (by simp; omega)]
        simp [h1] at this
        simp [this]
    rw [Nat.zero_add]
    have := wpAny_of_seq (P := P) (md := md) (ops := ops) (Q' := Q) (l.drop k) k listed a w (fun j => by rw [← hl]; simp) (by
      rw [List.length_drop, hlsz, hli]; exact hseq) (hf a inv.frame w inv.bel fun i φ d hr hd => by
        have hin : i < n := by
          have := (List.getElem?_eq_some_iff.1 hr).1
          omega
        exact inv.rows i hin (hall i hin) φ d hr hd)
    rwa [List.length_drop, hlsz] at this
  | succ m ih =>
    intro listed a w hc inv
    rw [show m + 1 + (ops.size - k) = (m + (ops.size - k)) + 1 by omega]
    refine ⟨fun h0 => ?_, fun i hi => ?_⟩
    · exfalso
      obtain ⟨i, h1, h2, h3⟩ := cntU_pos n listed (by omega)
      have hio := List.all_eq_true.1 hops i (List.mem_range.2 h1)
      obtain ⟨o, ho⟩ : ∃ o, ops[i]? = some o := ⟨_, Array.getElem?_eq_getElem (by omega)⟩
      rw [ho] at hio
      simp only [Bool.and_eq_true] at hio
      have : i ∈ Region.ready md ops listed := mem_ready.2 ⟨getD_in (by rw [inv.size]; omega) h2, o, ho, fun e he hb => h3 _ (by
        have := List.all_eq_true.1 hio.1 e.on (mem_depsOf he hb)
        simpa using this)⟩
      rw [h0] at this
      cases this
    · obtain ⟨hun, o, ho, hdep⟩ := mem_ready.1 hi
      have hunf := getD_both hun
      have hisz := (Array.getElem?_eq_some_iff.1 ho).1
      have hik : i < n ∨ k ≤ i := by
        rcases Nat.lt_or_ge i n with h | h
        · exact .inl h
        · rcases Nat.lt_or_ge i k with h' | h'
          · have := inv.pre i h h'
            rw [hunf] at this; cases this
          · exact .inr h'
      have hin : i < n := by
        rcases hik with h | h
        · exact h
        · exfalso
          obtain ⟨q, h1, h2, h3⟩ := cntU_pos n listed (by omega)
          have ht := List.all_eq_true.1 htail i (List.mem_range.2 hisz)
          simp only [Bool.or_eq_true, decide_eq_true_eq] at ht
          rcases ht with (ht | ht) | ht
          · omega
          · have key : ∀ (d q : Nat), q < n → n - q ≤ d → listed.getD q false = false → False := fun d => by
              induction d with
              | zero => intro q h1 h4 _; omega
              | succ d ihd =>
                intro q h1 h4 h2
                have hq := List.all_eq_true.1 ht q (List.mem_range.2 h1)
                simp only [Bool.or_eq_true] at hq
                rcases hq with hq | hq
                · obtain ⟨oj, hoj, e, he, hb, hon⟩ := Region.waitsFor_spec hq
                  obtain rfl : oj = o := Option.some.inj (hoj.symm.trans ho)
                  have := hdep e he hb
                  rw [hon, h2] at this
                  cases this
                · obtain ⟨j, hj, hj2⟩ := List.any_eq_true.1 hq
                  simp only [Bool.and_eq_true, decide_eq_true_eq] at hj2
                  have hjn := List.mem_range.1 hj
                  obtain ⟨oj, hoj, e, he, hb, hon⟩ := Region.waitsFor_spec hj2.2
                  cases hlj : listed.getD j false with
                  | true =>
                    have := inv.closed j oj hjn hlj hoj e he hb
                    rw [hon, h2] at this
                    cases this
                  | false => exact ihd j hjn (by omega) hlj
            exact key n q h1 (by omega) h2
          · obtain ⟨j, hj, hj2⟩ := List.any_eq_true.1 ht
            simp only [Bool.and_eq_true, decide_eq_true_eq] at hj2
            obtain ⟨oj, hoj, e, he, hb, hon⟩ := Region.waitsFor_spec hj2.2
            obtain rfl : oj = o := Option.some.inj (hoj.symm.trans ho)
            have := hdep e he hb
            have hjl := List.mem_range.1 hj
            rw [hon, getD_both (inv.tail j hj2.1 (by omega))] at this
            cases this
      obtain ⟨φ, hr⟩ : ∃ φ, T[i]? = some φ := ⟨_, List.getElem?_eq_getElem (by omega)⟩
      obtain ⟨d, hd⟩ : ∃ d, ds[i]? = some d := ⟨_, List.getElem?_eq_getElem (by omega)⟩
      have hio := List.all_eq_true.1 hops i (List.mem_range.2 hin)
      rw [ho] at hio
      simp only [Bool.and_eq_true, decide_eq_true_eq] at hio
      have hod : o.dst = some d := hio.2.trans hd
      have hlo : l[i]? = some o := by rw [← ho, ← hl]; simp
      have hstep := stepsM_get hs i φ o hr hlo a inv.frame w inv.bel (fun j hj => by
        have hji : j < i := by
          have := List.all_eq_true.1 hio.1 j (by simpa using hj)
          simpa using this
        refine inv.rows j (by omega) ?_
        unfold depsOf at hj
        simp only [List.contains_iff_mem, List.mem_map, List.mem_filter] at hj
        obtain ⟨e, ⟨he, hb⟩, rfl⟩ := hj
        exact hdep e (by simpa using he) hb)
      have hdm : d ∈ ds := List.mem_of_getElem? hd
      have hsz : d < a.tmps.size := by rw [inv.frame.size]; exact hin0 d hdm
      have hnext : ∀ v w', Below w.heap.size w w' → φ v w' → MInv2 md ops n k T ds a0 W (listed.setIfInBounds i true) (a.put o.dst v) w' := fun v w' hb hrv => by
        rw [hod]
        refine ⟨by simp [inv.size], fun t h1 h2 => getD_set_true (inv.pre t h1 h2), fun t h1 h2 => by rw [getD_set_ne true (by omega)]; exact inv.tail t h1 h2, inv.bel.trans (hb.mono inv.bel.size), inv.frame.put (fun k hk => (Option.some.inj hk) ▸ hdm) v, fun j hjn hjl ψ d' hr' hd' => ?_, fun j oj hjn hjl hoj e he hb2 => ?_⟩
        rotate_left
        · by_cases hji : j = i
          · subst hji
            obtain rfl : oj = o := Option.some.inj (hoj.symm.trans ho)
            exact getD_set_true (hdep e he hb2)
          · rw [getD_set_ne false (fun e => hji e.symm)] at hjl
            exact getD_set_true (inv.closed j oj hjn hjl hoj e he hb2)
        by_cases hji : j = i
        · subst hji
          obtain rfl : ψ = φ := Option.some.inj (hr'.symm.trans hr)
          obtain rfl : d' = d := Option.some.inj (hd'.symm.trans hd)
          have : (a.put (some d') v).eval (.tmp d') = v := by simp [Act.eval, Act.put, hsz]
          rw [this]
          exact hrv
        · rw [getD_set_ne false (fun e => hji e.symm)] at hjl
          have h0 := inv.rows j hjn hjl ψ d' hr' hd'
          have h1 := hst ψ (List.mem_of_getElem? hr') _ w w' hb h0
          rw [Act.eval_put fun k hk e => ?_]
          · exact h1
          · cases e
            obtain rfl := Option.some.inj hk
            exact hji (nodupB_spec hnd j i _ hd' hd)
      have hcs : cntU n (listed.setIfInBounds i true) = m := by
        have := cntU_set n i listed hin (by rw [inv.size]; omega) hunf
        omega
      unfold wpOp
      simp only [ho]
      unfold mStep at hstep
      by_cases hw : Region.wanted o (yielded ops a.tmps) = true
      · rw [if_pos hw] at hstep ⊢
        refine .inl ?_
        unfold Oper.wp
        generalize (execOp a.eval o).run P w = res at *
        cases res with
        | ok nx w' =>
          cases nx <;> simp only [mUpon] at hstep <;> simp only [Oper.upon]
          case value u => exact ih _ _ _ hcs (hnext u w' hstep.1 hstep.2)
          case skip => exact ih _ _ _ hcs (hnext undef w' hstep.1 hstep.2)
          case enter f args =>
            refine hstep.mono ?_
            rintro e w'' ⟨v, rfl, h1, h2⟩
            exact ih _ _ _ hcs (hnext v w'' h1 h2)
        | halt x w' => simp only [mUpon] at hstep
      · rw [if_neg hw] at hstep ⊢
        exact ih _ _ _ hcs (hnext undef w (Below.refl _ _) hstep)
theorem wp_region_mono2 {id : Nat} {Q : Exit → Act → World → Prop} {a0 : Act} {w : World} {l : List Oper} (n : Nat) (ds : List Nat) (T : List (Value → World → Prop)) (hm : P.follows .mixedOrders = true) (hB : monoB2 .any l.toArray n n ds = true) (hT : T.length = n)
    (hin0 : (ds.all fun d => decide (d < a0.tmps.size)) = true) (hst : ∀ φ ∈ T, ∀ v w w', Below w.heap.size w w' → φ v w → φ v w') (hs : stepsM P .any l.toArray T ds a0 w.drew T l)
    (hf : ∀ w', Below w.heap.size w.drew w' → finV ds T a0 w' fun a => wpList P l.toArray Q (l.drop n) a w') : (Code.region id l.toArray true).wp P Q a0 w := by
  refine wp_region_any hm ?_
  have hn : n ≤ l.toArray.size ∧ ds.length = n := by
    unfold monoB2 at hB
    simp only [Bool.and_eq_true, decide_eq_true_eq] at hB
    exact ⟨hB.1.1.1.1.2, hB.1.1.1.1.1.1⟩
  have := wpAny_mono2 (P := P) (md := .any) (Q := Q) (a0 := a0) (W := w.drew) rfl hT hB (fun d hd => by simpa using List.all_eq_true.1 hin0 d hd) hst hs (fun a he w' hb hr => finV_of ds T (by rw [hT]; exact hn.2) (hf w' hb) he fun i φ d h1 h2 => hr i φ d h1 h2) n (Array.replicate l.toArray.size false) a0 w.drew (cntU_replicate _ _)
    ⟨by simp, fun t h1 h2 => by omega, fun t _ ht => getD_in (by simpa using ht) (getD_replicate_false _ _), Below.refl _ _, FrameEq.refl _ _, fun i _ h => (by rw [getD_replicate_false] at h; cases h), fun i _ _ h => (by rw [getD_replicate_false] at h; cases h)⟩
  rw [show n + (l.toArray.size - n) = l.toArray.size by omega] at this
  exact this
end
end Go.Proofs.YtplmmamebfpcjaaDoor
end
section
/- A region that draws its order: its head (loads among calls that keep what the loads read) in whatever order, S holding all the while; then its tail, one operation behind the other, of which nothing is asked for S. -/
namespace Go.Proofs.YtplmmamebfpcjaaDoor
open Go.RowKit
section
variable {P : Program} {ops : Array Oper} {md : Region.Mode} {Q : Exit → Act → World → Prop} {S : World → Prop} {n : Nat} {L : Array Bool → Act → World → Prop}
def HL (P : Program) (md : Region.Mode) (ops : Array Oper) (Q : Exit → Act → World → Prop) (S : World → Prop) (n : Nat) (L : Array Bool → Act → World → Prop) : Nat → Array Bool → Act → World → Prop
  | 0, listed, a, w => L listed a w
  | f + 1, listed, a, w =>
    Region.ready md ops listed ≠ [] ∧ ∀ i ∈ Region.ready md ops listed, i < n ∧ wpOp P ops Q i (fun a' w' => S w' ∧ HL P md ops Q S n L f (listed.setIfInBounds i true) a' w') a w
theorem of_HL {g : Nat} (hL : ∀ listed a w, L listed a w → wpAny P md ops Q g listed a w) : ∀ (f : Nat) (listed : Array Bool) (a : Act) (w : World), HL P md ops Q S n L f listed a w → wpAny P md ops Q (f + g) listed a w
  | 0, listed, a, w, h => by rw [Nat.zero_add]; exact hL _ _ _ h
  | f + 1, listed, a, w, h => by
    rw [show f + 1 + g = (f + g) + 1 by omega]
    exact ⟨fun h0 => absurd h0 h.1, fun i hi => wpOp_mono (fun a' w' h' => of_HL hL f _ a' w' h'.2) (h.2 i hi).2⟩
/-- No operation of the tail has come up; what one that has come up waits for has come up. -/
structure TailNo (md : Region.Mode) (ops : Array Oper) (n : Nat) (listed : Array Bool) : Prop where
  no : ∀ t, n ≤ t → t < ops.size → listed.getD t true = false
  closed : ∀ (i : Nat) (o : Oper), listed.getD i false = true → ops[i]? = some o → ∀ e ∈ o.after, Region.binds md e = true → listed.getD e.on false = true
theorem head_all (ht : tailB2 md ops n n = true) {listed : Array Bool} (hv : TailNo md ops n listed) {j : Nat} (hj : j ∈ Region.ready md ops listed) (hnj : n ≤ j) : ∀ d i, i < n → n - i ≤ d → listed.getD i false = true := by
  obtain ⟨hun, o, ho, hdep⟩ := mem_ready.1 hj
  have hjsz := (Array.getElem?_eq_some_iff.1 ho).1
  have h1 := List.all_eq_true.1 ht j (List.mem_range.2 hjsz)
  simp only [Bool.or_eq_true, decide_eq_true_eq] at h1
  intro d
  induction d with
  | zero => intro i hi hd; omega
  | succ d ih =>
    intro i hi hd
    rcases h1 with (h1 | h1) | h1
    · omega
    · have h2 := List.all_eq_true.1 h1 i (List.mem_range.2 hi)
      simp only [Bool.or_eq_true] at h2
      rcases h2 with h2 | h2
      · obtain ⟨oj, hoj, e, he, hb, hon⟩ := Region.waitsFor_spec h2
        obtain rfl : oj = o := Option.some.inj (hoj.symm.trans ho)
        have := hdep e he hb
        rwa [hon] at this
      · obtain ⟨k, hk, hk2⟩ := List.any_eq_true.1 h2
        simp only [Bool.and_eq_true, decide_eq_true_eq] at hk2
        have hkn := List.mem_range.1 hk
        obtain ⟨ok, hok, e, he, hb, hon⟩ := Region.waitsFor_spec hk2.2
        have := hv.closed k ok (ih k hkn (by omega)) hok e he hb
        rwa [hon] at this
    · obtain ⟨k, hk, hk2⟩ := List.any_eq_true.1 h1
      simp only [Bool.and_eq_true, decide_eq_true_eq] at hk2
      obtain ⟨oj, hoj, e, he, hb, hon⟩ := Region.waitsFor_spec hk2.2
      obtain rfl : oj = o := Option.some.inj (hoj.symm.trans ho)
      have := hdep e he hb
      have hkl := List.mem_range.1 hk
      rw [hon, getD_both (hv.no k hk2.1 (by omega))] at this
      cases this
theorem head_ready (ht : tailB2 md ops n n = true) {listed : Array Bool} (hv : TailNo md ops n listed) {i j : Nat} (hi : i < n) (hu : listed.getD i false = false) (hj : j ∈ Region.ready md ops listed) : j < n := by
  rcases Nat.lt_or_ge j n with h | h
  · exact h
  · have := head_all ht hv hj h n i hi (by omega)
    rw [hu] at this; cases this
theorem TailNo.set {listed : Array Bool} (h : TailNo md ops n listed) {i : Nat} (hi : i < n) (hr : i ∈ Region.ready md ops listed) : TailNo md ops n (listed.setIfInBounds i true) := by
  refine ⟨fun t h1 h2 => by rw [getD_set_ne true (by omega)]; exact h.no t h1 h2, fun k o hk ho e he hb => ?_⟩
  obtain ⟨hun, oi, hoi, hdep⟩ := mem_ready.1 hr
  by_cases hki : k = i
  · subst hki
    obtain rfl : oi = o := Option.some.inj (hoi.symm.trans ho)
    exact getD_set_true (hdep e he hb)
  · rw [getD_set_ne false (fun e => hki e.symm)] at hk
    exact getD_set_true (h.closed k o hk ho e he hb)
theorem HL_first {i : Nat} {oi : Oper} {v : Value} (hi : ops[i]? = some oi) (hsel : ∀ (j : Nat) (o : Oper) cs b, ops[j]? = some o → o.op ≠ .select cs b)
    (hQ : ∀ c a w, Q (.panic c) (a.put oi.dst v) w → Q (.panic c) a w) (ht : tailB2 md ops n n = true) (hin : i < n) (hdone : ∀ listed a w, L listed a w → ∀ j ∈ Region.ready md ops listed, n ≤ j) :
    ∀ (f : Nat) (listed : Array Bool) (a : Act) (w : World), TailNo md ops n listed →
      (∀ j oj, ops[j]? = some oj → j ≠ i → listed.getD j true = false → (∀ e ∈ oj.after, Region.binds md e = true → e.on ≠ i) → oi.apart ops oj = true) →
      i ∈ Region.ready md ops listed → YieldsIf P ops S oi v a → S w →
      HL P md ops Q S n L f (listed.setIfInBounds i true) (a.put oi.dst v) w → HL P md ops Q S n L (f + 1) listed a w := by
  intro f
  induction f with
  | zero =>
    intro listed a w hv _ hr hy hS H
    refine ⟨fun h => (by rw [h] at hr; cases hr), fun j hj => ?_⟩
    have hjn := head_ready ht hv hin (getD_both (mem_ready.1 hr).1) hj
    refine ⟨hjn, ?_⟩
    by_cases hji : j = i
    · subst hji; exact hy.wpOp hi hS ⟨hS, H⟩
    · have := hdone _ _ _ H j (ready_mono hj hji)
      omega
  | succ f ih =>
    intro listed a w hv hfree hr hy hS H
    refine ⟨fun h => (by rw [h] at hr; cases hr), fun j hj => ?_⟩
    have hjn := head_ready ht hv hin (getD_both (mem_ready.1 hr).1) hj
    refine ⟨hjn, ?_⟩
    by_cases hji : j = i
    · subst hji; exact hy.wpOp hi hS ⟨hS, H⟩
    · have h1 := (H.2 j (ready_mono hj hji)).2
      obtain ⟨hjun, oj, hoj, hall⟩ := mem_ready.1 hj
      have hnot : ∀ e ∈ oj.after, Region.binds md e = true → e.on ≠ i := fun e he hb heq => by
        have h1 := hall e he hb
        have h0 := (mem_ready.1 hr).1
        rw [heq] at h1
        rw [getD_both h0] at h1
        cases h1
      have h2 := wpOp_putIf hoj (hfree j oj hoj hji hjun hnot) (fun cs b => hsel i oi cs b hi) (fun cs b => hsel j oj cs b hoj) hQ hy h1
      have hfree' : ∀ k ok, ops[k]? = some ok → k ≠ i → (listed.setIfInBounds j true).getD k true = false →
          (∀ e ∈ ok.after, Region.binds md e = true → e.on ≠ i) → oi.apart ops ok = true := fun k ok hk hki hun hno => by
        refine hfree k ok hk hki ?_ hno
        by_cases hjk : j = k
        · subst hjk; exact hjun
        · rw [getD_set_ne true hjk] at hun; exact hun
      refine wpOp_mono (fun a' w' h3 => ⟨h3.2.1, ih (listed.setIfInBounds j true) a' w' (hv.set hjn hj) hfree' (ready_mono hr (Ne.symm hji)) h3.1 h3.2.1 ?_⟩) h2
      rw [Array.setIfInBounds_comm _ _ hji]
      exact h3.2.2
/-- What holds behind the head: the tail is to be walked. -/
def TailL (P : Program) (Q : Exit → Act → World → Prop) (n : Nat) (l : List Oper) (listed : Array Bool) (a : Act) (w : World) : Prop :=
  listed = Array.replicate n true ++ Array.replicate (l.length - n) false ∧ wpList P l.toArray Q (l.drop n) a w
def heldB (md : Region.Mode) (l : List Oper) (n : Nat) : Bool :=
  decide (n ≤ l.length) && tailB2 md l.toArray n n && Region.noSelect l.toArray && Region.seqB md l.toArray (l.length - n) n (Array.replicate n true ++ Array.replicate (l.length - n) false)
theorem tailL_done {l : List Oper} {listed : Array Bool} {a : Act} {w : World} (h : TailL P Q n l listed a w) : ∀ j ∈ Region.ready md l.toArray listed, n ≤ j := by
  intro j hj
  obtain ⟨hun, o, ho, _⟩ := mem_ready.1 hj
  rcases Nat.lt_or_ge j n with h1 | h1
  · rw [h.1] at hun
    have hjs : j < (Array.replicate n true ++ Array.replicate (l.length - n) false).size := by simp; omega
    rw [Array.getD_eq_getD_getElem?, Array.getElem?_eq_getElem hjs, Array.getElem_append_left (by simpa using h1)] at hun
    simp at hun
  · exact h1
def tailNoB (md : Region.Mode) (l : List Oper) (n : Nat) (listed : Array Bool) : Bool :=
  ((List.range l.length).all fun t => decide (t < n) || !listed.getD t true) &&
  ((List.range l.length).all fun i => !listed.getD i false || match l[i]? with | some o => o.after.toList.all fun e => !Region.binds md e || listed.getD e.on false | none => true)
theorem tailNo_of {l : List Oper} {listed : Array Bool} (h : tailNoB md l n listed = true) : TailNo md l.toArray n listed := by
  unfold tailNoB at h
  rw [Bool.and_eq_true] at h
  refine ⟨fun t h1 h2 => ?_, fun i o hi ho e he hb => ?_⟩
  · have := List.all_eq_true.1 h.1 t (List.mem_range.2 (by simpa using h2))
    simp only [Bool.or_eq_true, decide_eq_true_eq, Bool.not_eq_true'] at this
    rcases this with h3 | h3
    · omega
    · exact h3
  · have ho' : l[i]? = some o := by simpa using ho
    have := List.all_eq_true.1 h.2 i (List.mem_range.2 (List.getElem?_eq_some_iff.1 ho').1)
    rw [ho', hi] at this
    simp only [Bool.not_true, Bool.false_or] at this
    have := List.all_eq_true.1 this e (by simpa using he)
    rw [hb] at this
    simpa using this
/-- Taken first. -/
theorem HL_take {l : List Oper} {i : Nat} {oi : Oper} (v : Value) {f : Nat} {listed : Array Bool} {a : Act} {w : World} (hB : heldB md l n = true) (hi : l.toArray[i]? = some oi) (hin : i < n) (htn : tailNoB md l n listed = true)
    (hf : Region.free md l.toArray listed i = true) (hr : (Region.ready md l.toArray listed).contains i = true)
    (hQ : ∀ c (a : Act) w, Q (.panic c) (a.put oi.dst v) w → Q (.panic c) a w) (hy : YieldsIf P l.toArray S oi v a) (hS : S w)
    (h : HL P md l.toArray Q S n (TailL P Q n l) f (listed.setIfInBounds i true) (a.put oi.dst v) w) : HL P md l.toArray Q S n (TailL P Q n l) (f + 1) listed a w := by
  unfold heldB at hB
  simp only [Bool.and_eq_true, decide_eq_true_eq] at hB
  exact HL_first hi (Region.noSelect_spec hB.1.2) hQ hB.1.1.2 hin (fun _ _ _ h => tailL_done h) f listed a w (tailNo_of htn) (Region.free_spec hi hf) (by simpa using hr) hy hS h
theorem HL_one {L : Array Bool → Act → World → Prop} {i : Nat} {o : Oper} {f : Nat} {listed : Array Bool} {a : Act} {w : World} (hi : ops[i]? = some o) (hin : i < n) (hr : Region.ready md ops listed = [i]) (hg : o.guard = none)
    (h : o.wp P a w (fun a' w' => S w' ∧ HL P md ops Q S n L f (listed.setIfInBounds i true) a' w') Q) : HL P md ops Q S n L (f + 1) listed a w := by
  refine ⟨by rw [hr]; exact List.cons_ne_nil _ _, fun k hk => ?_⟩
  rw [hr] at hk
  obtain rfl : k = i := by simpa using hk
  refine ⟨hin, ?_⟩
  unfold wpOp
  simp only [hi, Region.wanted, hg, if_true]
  exact .inl h
theorem wp_value {o : Oper} {a : Act} {w w' : World} {v : Value} {K : Act → World → Prop} (hrun : (execOp a.eval o).run P w = .ok (.value v) w') (h : K (a.put o.dst v) w') : o.wp P a w K Q := by
  unfold Oper.wp
  rw [hrun]
  exact h
theorem wp_enter {o : Oper} {a : Act} {w : World} {f : FuncId} {args : Array Value} {K : Act → World → Prop} (hrun : (execOp a.eval o).run P w = .ok (.enter f args) w) (h : Calls P f args w fun e w' => ∃ v, e = .returned v ∧ K (a.put o.dst v) w') : o.wp P a w K Q := by
  unfold Oper.wp
  rw [hrun]
  refine h.mono ?_
  rintro e w' ⟨v, rfl, hK⟩
  exact hK
theorem wp_append {o : Oper} {a : Act} {w : World} {K : Act → World → Prop} (s x : Operand) (t tx : TypeId) (hop : o.op = Op.call { callee := Callee.builtin Builtin.append, args := #[s, x], argTypes := #[t, tx] }) (v y : Value) (hs : a.eval s = v) (hx : a.eval x = y) (R : Value → World → Prop)
    (hr : ∃ v' w', (Builtin.append_ #[t, tx] o.type #[v, y]).run P w = .ok v' w' ∧ R v' w') (hK : ∀ v' w', R v' w' → K (a.put o.dst v') w') : o.wp P a w K Q := by
  obtain ⟨v', w', hrun, hR⟩ := hr
  unfold Oper.wp
  simp [execOp, hop, resolve, invoke, builtin, hs, hx, hrun, Result.andThen]
  exact hK v' w' hR
/-- THE LAW. -/
theorem wp_region_heldtail {id : Nat} {a : Act} {w : World} {l : List Oper} (n : Nat) (S : World → Prop) (hm : P.follows .mixedOrders = true) (hB : heldB .any l n = true)
    (h : HL P .any l.toArray Q S n (TailL P Q n l) n (Array.replicate l.length false) a w.drew) : (Code.region id l.toArray true).wp P Q a w := by
  have hB' := hB
  unfold heldB at hB'
  simp only [Bool.and_eq_true, decide_eq_true_eq] at hB'
  refine wp_region_any hm ?_
  have h1 := of_HL (g := l.length - n) (fun listed a w hl => by
    obtain ⟨rfl, h2⟩ := hl
    have := wpAny_of_seq (P := P) (md := .any) (ops := l.toArray) (Q' := Q) (l.drop n) n (Array.replicate n true ++ Array.replicate (l.length - n) false) a w (fun j => by simp) (by rw [List.length_drop]; exact hB'.2) h2
    rwa [List.length_drop] at this) n _ a w.drew h
  rw [show n + (l.length - n) = l.toArray.size by simp; omega] at h1
  simpa using h1
end
end Go.Proofs.YtplmmamebfpcjaaDoor
end
section
/- The closure that reads one word: its contract. -/
namespace Go.Proofs.YtplmmamebfpcjaaDoor
open Go.RowKit Go.Sort Go.Joins
set_option linter.unusedVariables false
set_option maxRecDepth 100000
set_option linter.unusedSimpArgs false
/-- What was read, or where the reader stands refused. -/
def StepOf {α : Type} (x : Except Er (α × Nat)) (t : α) (x' : Except Er Nat) : Prop :=
  match x with
  | .ok (a, q) => t = a ∧ x' = .ok q
  | .error e => x' = .error e
theorem WordQ.step {w' : World} {g : Nat} {s : RS} {x : Except Er (ByteArray × Nat)} {t : ByteArray} (h : WordQ w' g s x t) (h0 : s.no = none) : ∃ x', StepOf x t x' ∧ Rx w' g s x' := by
  obtain ⟨a, n, c, p, no, W, M, A, B, C, P, bl⟩ := s
  simp only at h0
  subst h0
  cases x with
  | ok k => obtain ⟨h1, h2⟩ := h; exact ⟨.ok k.2, ⟨h1, rfl⟩, h2⟩
  | error e => exact ⟨.error e, rfl, h⟩
/-- What a closure of the reader's leaves. -/
structure CloP (w : World) (g bx B : Nat) (w' : World) : Prop where
  but : But g B w w'
  ints : KT 3 w w'
  box : BoxR w' bx g
theorem Rx.setW3 {w : World} {g : Nat} {s : RS} {x : Except Er Nat} (h : Rx w g s x) (v : Value) : Rx (w.setCell ⟨g, 3, none⟩ v) g { s with W := v } x := by
  cases x with
  | ok q => exact RB.setW h v
  | error e => obtain ⟨p, N, k1, k3, k4⟩ := h; exact ⟨p, N, k1.setW v, k3, (Below.heap_setCell _ _ _ N (by show N ≠ g; omega)).trans k4⟩
theorem Rx.cM {w : World} {g : Nat} {s : RS} {x : Except Er Nat} (h : Rx w g s x) : w.cell? ⟨g, 4, none⟩ = some s.M := by obtain ⟨_, _, h⟩ := h.form; exact h.c4
theorem Rx.free {w : World} {g : Nat} {s : RS} {x : Except Er Nat} (h : Rx w g s x) (i : Nat) : w.frozen? ⟨g, i, none⟩ = false := by obtain ⟨_, _, h⟩ := h.form; exact h.free i
theorem Rx.setkt {w : World} {g : Nat} {s : RS} {x : Except Er Nat} (h : Rx w g s x) {T : TypeId} (hT : T ≠ 61) (o : Nat) (v : Value) : KT T w (w.setCell ⟨g, o, none⟩ v) := by obtain ⟨_, _, h⟩ := h.form; exact set_kt h hT o v
theorem cell_set_ne {w : World} {b i g j : Nat} {v : Value} (h : w.cell? ⟨b, i, none⟩ = some v) (hne : b ≠ g) (u : Value) : (w.setCell ⟨g, j, none⟩ u).cell? ⟨b, i, none⟩ = some v :=
  (World.cell?_of_block (w := w) (a := ⟨b, i, none⟩) (Below.heap_setCell _ _ _ b hne)).trans h
theorem cell_new {w : World} {b i : Nat} {v : Value} (h : w.cell? ⟨b, i, none⟩ = some v) (o : Obj) : (w.alloc o).cell? ⟨b, i, none⟩ = some v :=
  ((Below.refl _ _).alloc (Nat.le_refl _) o).cell (World.block_lt_of_cell? w _ h) |>.trans h
def AppW (w : World) (g bx B : Nat) (s : RS) (x : Except Er Nat) (l : List ByteArray) (v : Value) (w' : World) : Prop := Rx w' g s x ∧ RowW w' B v l ∧ But g B w w' ∧ KT 3 w w' ∧ BoxR w' bx g ∧ ∃ gg cap, v = .slice (some ⟨gg, 0, none⟩) l.length cap
theorem But.alloc {g B : Nat} {w w1 : World} (h : But g B w w1) (hB : B ≤ w1.heap.size) (o : Obj) : But g B w (w1.alloc o) := h.trans (But.of_below ((box_below w1 o).mono hB))
theorem But.grow {g B base : Nat} {w w1 w2 : World} {T : TypeId} {k : Nat} {v : Value} {n : Nat} {xs : List Value} (h : But g B w w1) (hg : w1.grownBy w2 v.ownBlock) (hv : w1.ownsRow base T k v n xs) (hb : B ≤ base) (hB : base ≤ w1.heap.size) : But g B w w2 :=
  h.trans (But.of_below ((grown_below hg hv hB).mono hb))
theorem appW_step (w w1 : World) (g bx B : Nat) (s : RS) (x : Except Er Nat) (ws : List ByteArray) (t : ByteArray) (hx : Rx w1 g s x) (hrow : RowW w1 B s.W ws) (hb : But g B w w1) (hk : KT 3 w w1) (hbx : BoxR w1 bx g) (hB : B ≤ w1.heap.size) (hgB : g < B) (hn : ws.length ≤ 4194304) :
    ∃ v' w', (Builtin.append_ #[42, 42] 42 #[s.W, .slice (some ⟨w1.heap.size, 0, none⟩) 1 1]).run Tryd.prog (w1.alloc (.cells #[.string t] 9)) = .ok v' w' ∧ AppW w g bx B s x (ws ++ [t]) v' w' := by
  have hbe := box_below w1 (.cells #[.string t] 9)
  have hrow2 : RowW (w1.alloc (.cells #[.string t] 9)) B s.W ws := own_kt hrow (KT.of_below hbe)
  obtain ⟨v', w', h1, h2, h3⟩ := app_word _ B s.W ws t w1.heap.size 1 hrow2 (heap_alloc_new _ _) (Nat.le_trans hB hbe.size) hn
  have g1 := fun T (hT : T ≠ 9) => grown_kt (T := T) (T2 := 9) (k := 1) (xs := cellsW ws) h3 hrow2 hT
  have g2 := hb.alloc hB (.cells #[.string t] 9)
  have g3 := g2.grow (T := 9) (k := 1) (xs := cellsW ws) h3 hrow2 (Nat.le_refl _) (Nat.le_trans hB hbe.size)
  have g4 := own_form (T := 9) (k := 1) (xs := cellsW (ws ++ [t])) h2 (by simp)
  exact ⟨v', w', h1, (hx.below hbe).kt (g1 _ (by decide)) (g1 _ (by decide)), h2, g3, hk.trans ((KT.of_below hbe).trans (g1 _ (by decide))), (hbx.kt (KT.of_below hbe)).kt (g1 _ (by decide)), g4⟩
set_option maxHeartbeats 4000000 in
theorem wordsC_any (g bx B q : Nat) (s : RS) (l : List UInt8) (ws : List ByteArray) (w : World) (hbx : BoxR w bx g) (hr : Rx w g s (.ok q)) (hrow : RowW w B s.W ws) (hF : Fl w s l) (hw : ∃ w0 : World, Below w0.heap.size w0 w ∧ Oc.BS w0 s.a l ∧ w0.heap.size ≤ g) (hB : B ≤ w.heap.size) (hgB : g < B) (hn : ws.length ≤ 4194304) :
    Calls Tryd.prog 46 #[.pointer (some ⟨bx, 0, none⟩)] w fun e w' => e = .returned (.tuple #[]) ∧ CloP w g bx B w' ∧ ∃ t v x', StepOf (wordP l q) t x' ∧ Rx w' g { s with W := v } x' ∧ RowW w' B v (ws ++ [t]) := by
  have hd : Below w.heap.size w w.drew := (Below.refl _ _).drew
  have hW := word6_any g { s with p := q, no := none } l w.drew (RB.below hr hd (RB.lt hr)) rfl ⟨hF.n, hF.le, hF.lim, hF.at'.below hd⟩ (by obtain ⟨w0, k1, k2, k3⟩ := hw; exact ⟨w0, k1.trans (hd.mono k1.size), k2, k3⟩)
  have c0 := hbx.cell
  have c3 := RB.c3 hr
  have hne : bx ≠ g := by
    rintro rfl
    have h1 := hbx
    unfold BoxR at h1
    have h2 := hr
    unfold Rx RB at h2
    rw [h1] at h2
    simp at h2
  have HR : Hid (Rx w g s (.ok q)) := hr
  have HRow : Hid (RowW w B s.W ws) := hrow
  have HBx : Hid (BoxR w bx g) := hbx
  simp only at c3
  clear hr hrow hbx hF hw
  go_enter Tryd.func46, Tryd.ntmps46
  go_wp2_with fail
  refine wp_region_heldtail 10 (fun w' => w'.cell? ⟨bx, 0, none⟩ = some (.pointer (some ⟨g, 0, none⟩)) ∧ w'.cell? ⟨g, 3, none⟩ = some s.W) (by kernel_rfl) (by kernel_rfl) ?_
  have hS : (w.drew.cell? ⟨bx, 0, none⟩ = some (.pointer (some ⟨g, 0, none⟩)) ∧ w.drew.cell? ⟨g, 3, none⟩ = some s.W) := ⟨by simpa using c0, by simpa using c3⟩
  refine HL_take (i := 0) (.pointer (some ⟨g, 0, none⟩)) (by kernel_rfl) rfl (by omega) (by kernel_rfl) (by kernel_rfl) (by kernel_rfl) (fun _ _ _ h => h) (.inl ⟨by kernel_rfl, fun w' hw' => by obtain ⟨u0, u3⟩ := hw'; go_simp⟩) hS ?_
  simp only [Act.put, List.setIfInBounds_toArray, List.set_cons_zero, List.set_cons_succ]
  refine HL_take (i := 1) (.pointer (some ⟨g, 0, none⟩)) (by kernel_rfl) rfl (by omega) (by kernel_rfl) (by kernel_rfl) (by kernel_rfl) (fun _ _ _ h => h) (.inl ⟨by kernel_rfl, fun w' hw' => by obtain ⟨u0, u3⟩ := hw'; go_simp⟩) hS ?_
  simp only [Act.put, List.setIfInBounds_toArray, List.set_cons_zero, List.set_cons_succ]
  refine HL_take (i := 2) (.pointer (some ⟨g, 0, none⟩)) (by kernel_rfl) rfl (by omega) (by kernel_rfl) (by kernel_rfl) (by kernel_rfl) (fun _ _ _ h => h) (.inl ⟨by kernel_rfl, fun w' hw' => by obtain ⟨u0, u3⟩ := hw'; go_simp⟩) hS ?_
  simp only [Act.put, List.setIfInBounds_toArray, List.set_cons_zero, List.set_cons_succ]
  refine HL_take (i := 3) (.pointer (some ⟨g, 3, none⟩)) (by kernel_rfl) rfl (by omega) (by kernel_rfl) (by kernel_rfl) (by kernel_rfl) (fun _ _ _ h => h) (.inl ⟨by kernel_rfl, fun w' hw' => by obtain ⟨u0, u3⟩ := hw'; go_simp⟩) hS ?_
  simp only [Act.put, List.setIfInBounds_toArray, List.set_cons_zero, List.set_cons_succ]
  refine HL_take (i := 4) (.pointer (some ⟨g, 3, none⟩)) (by kernel_rfl) rfl (by omega) (by kernel_rfl) (by kernel_rfl) (by kernel_rfl) (fun _ _ _ h => h) (.inl ⟨by kernel_rfl, fun w' hw' => by obtain ⟨u0, u3⟩ := hw'; go_simp⟩) hS ?_
  simp only [Act.put, List.setIfInBounds_toArray, List.set_cons_zero, List.set_cons_succ]
  refine HL_take (i := 5) (s.W) (by kernel_rfl) rfl (by omega) (by kernel_rfl) (by kernel_rfl) (by kernel_rfl) (fun _ _ _ h => h) (.inl ⟨by kernel_rfl, fun w' hw' => by obtain ⟨u0, u3⟩ := hw'; go_simp⟩) hS ?_
  simp only [Act.put, List.setIfInBounds_toArray, List.set_cons_zero, List.set_cons_succ]
  refine HL_take (i := 6) (.pointer (some ⟨g, 0, none⟩)) (by kernel_rfl) rfl (by omega) (by kernel_rfl) (by kernel_rfl) (by kernel_rfl) (fun _ _ _ h => h) (.inl ⟨by kernel_rfl, fun w' hw' => by obtain ⟨u0, u3⟩ := hw'; go_simp⟩) hS ?_
  simp only [Act.put, List.setIfInBounds_toArray, List.set_cons_zero, List.set_cons_succ]
  refine HL_one (i := 7) rfl (by omega) (by kernel_rfl) rfl ?_
  refine wp_enter (f := 47) (args := #[.pointer (some ⟨g, 0, none⟩)]) (by simp [execOp, resolve]; rfl) ?_
  refine hW.mono ?_
  rintro e w1 ⟨hb1, t, rfl, hq1⟩
  obtain ⟨x', hst, hx1⟩ := hq1.step rfl
  have hB1 : But g w.heap.size w w1 := (But.of_below hd).trans (hb1.mono hd.size)
  have hbx1 : BoxR w1 bx g := (hB1.2.2.2.2 bx (Array.getElem?_eq_some_iff.1 HBx.out).1 hne).trans HBx.out
  have hx1' : Rx w1 g s x' := by
    cases x' with
    | ok q => exact hx1
    | error e => exact hx1
  have hRB : RB w g { s with p := q, no := none } := HR.out
  have kW : KT 9 w w1 := hB1.kt hRB (by decide)
  have kI : KT 3 w w1 := hB1.kt hRB (by decide)
  have hrow1 : RowW w1 B s.W ws := HRow.out.kt kW
  have HAPP := appW_step w w1 g bx B s x' ws t hx1' hrow1 (hB1.mono hB) kI hbx1 (Nat.le_trans hB hB1.size) hgB hn
  obtain ⟨p1, no1, e1⟩ := hx1'.form
  have d3 : w1.cell? ⟨g, 3, none⟩ = some s.W := e1.c3
  have d0 := hbx1.cell
  clear hq1 hx1 e1
  refine ⟨_, rfl, ⟨d0, d3⟩, ?_⟩
  simp only [Act.put, List.setIfInBounds_toArray, List.set_cons_zero, List.set_cons_succ]
  refine HL_one (i := 8) rfl (by omega) (by kernel_rfl) rfl ?_
  refine wp_value (v := .slice (some ⟨w1.heap.size, 0, none⟩) 1 1) (w' := w1.alloc (.cells #[.string t] 9)) (by go_simp) ?_
  refine ⟨⟨cell_new d0 _, cell_new d3 _⟩, ?_⟩
  simp only [Act.put, List.setIfInBounds_toArray, List.set_cons_zero, List.set_cons_succ]
  refine HL_one (i := 9) rfl (by omega) (by kernel_rfl) rfl ?_
  refine wp_append (.tmp 6) (.tmp 9) 42 42 (by kernel_rfl) s.W (.slice (some ⟨w1.heap.size, 0, none⟩) 1 1) (by go_simp) (by go_simp) (AppW w g bx B s x' (ws ++ [t])) (by exact HAPP) ?_
  rintro v5 w5 ⟨r1, r2, r3, r4, r5, gg, cp, rfl⟩
  rw [List.length_append, List.length_singleton] at r2
  obtain ⟨p5, no5, e5⟩ := r1.form
  have f3 := e5.free 3
  have e3 : w5.cell? ⟨g, 3, none⟩ = some s.W := e5.c3
  refine ⟨⟨r5.cell, e3⟩, ?_⟩
  simp only [Act.put, List.setIfInBounds_toArray, List.set_cons_zero, List.set_cons_succ]
  refine ⟨by kernel_rfl, ?_⟩
  simp only [List.drop_succ_cons, List.drop_zero]
  go_wp2_with fail
  go_end0
  refine ⟨rfl, ⟨r3.setCell 3 _, r4.trans (set_kt (T := 3) e5 (by decide) 3 _), (Below.heap_setCell _ _ _ bx (fun e => hne e)).trans r5⟩, t, _, x', hst, r1.setW3 _, RowW.kt r2 (set_kt (T := 9) e5 (by decide) 3 _)⟩
end Go.Proofs.YtplmmamebfpcjaaDoor
end
