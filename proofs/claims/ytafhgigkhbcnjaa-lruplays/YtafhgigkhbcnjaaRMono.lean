/- A region that draws its order, whose operations may call, make memory and hand on values that no one knows beforehand: each operation keeps all that stands (Below); of each a fact about its slots is said ahead (a row), which stays true. The last operations may come one behind the other (they may write). -/
import Derived.StillTail
import Derived.Below
namespace Go.Proofs.Ytafhgigkhbcnjaa
open Go.RowKit
def mUpon (P : Program) (K : Value → World → Prop) : Result Next → Prop
  | .ok (.value u) w' => K u w'
  | .ok .skip w' => K undef w'
  | .ok (.enter f args) w' => Calls P f args w' fun e w'' => ∃ v, e = .returned v ∧ K v w''
  | _ => False
theorem mUpon_value (P : Program) (K : Value → World → Prop) (u : Value) (w : World) : mUpon P K (.ok (.value u) w) = K u w := rfl
theorem mUpon_skip (P : Program) (K : Value → World → Prop) (w : World) : mUpon P K (.ok .skip w) = K undef w := rfl
theorem mUpon_enter (P : Program) (K : Value → World → Prop) (f : FuncId) (args : Array Value) (w : World) : mUpon P K (.ok (.enter f args) w) = Calls P f args w fun e w'' => ∃ v, e = .returned v ∧ K v w'' := rfl
def depsOf (md : Region.Mode) (o : Oper) : List Nat := (o.after.toList.filter (Region.binds md)).map (·.on)
/-- One operation, by itself: φ holds of what it answers. -/
def mStep (P : Program) (ops : Array Oper) (φ : Value → World → Prop) (o : Oper) (a : Act) (w : World) : Prop :=
  if Region.wanted o (yielded ops a.tmps) then mUpon P (fun v w' => Below w.heap.size w w' ∧ φ v w') ((execOp a.eval o).run P w) else φ undef w
/-- The frame, its slots filled one by one, and what holds of them. -/
def finV : List Nat → List (Value → World → Prop) → Act → World → (Act → Prop) → Prop
  | d :: ds, φ :: T, a, w, p => ∀ u, φ u w → finV ds T (a.put (some d) u) w p
  | _, _, a, _, p => p a
structure FrameEq (ds : List Nat) (a0 a : Act) : Prop where
  defers : a.defers = a0.defers
  size : a.tmps.size = a0.tmps.size
  slot : ∀ k, k ∉ ds → a.tmps[k]? = a0.tmps[k]?
theorem FrameEq.refl (ds : List Nat) (a : Act) : FrameEq ds a a := ⟨rfl, rfl, fun _ _ => rfl⟩
theorem FrameEq.put {ds : List Nat} {a0 a : Act} (h : FrameEq ds a0 a) {d : Option Nat} (hd : ∀ k, d = some k → k ∈ ds) (v : Value) : FrameEq ds a0 (a.put d v) := by
  cases d with
  | none => exact h
  | some d =>
    refine ⟨h.defers, by simpa [Act.put] using h.size, fun k hk => ?_⟩
    have hne : d ≠ k := fun e => hk (e ▸ hd d rfl)
    simp only [Act.put]
    rw [Array.getElem?_setIfInBounds_ne hne]
    exact h.slot k hk
theorem FrameEq.get {ds : List Nat} {a0 a : Act} (h : FrameEq ds a0 a) {k : Nat} (hk : ds.contains k = false) : a.eval (.tmp k) = a0.eval (.tmp k) := by
  have := h.slot k (by simpa using hk)
  simp only [Act.eval, Array.getD_eq_getD_getElem?, this]
theorem finV_of : ∀ (ds : List Nat) (T : List (Value → World → Prop)) {a0 a : Act} {w : World} {p : Act → Prop}, ds.length = T.length → finV ds T a0 w p → FrameEq ds a0 a → (∀ (i : Nat) φ d, T[i]? = some φ → ds[i]? = some d → φ (a.eval (.tmp d)) w) → p a
  | [], [], a0, a, w, p, _, h, he, _ => by
    have : a = a0 := by
      obtain ⟨t, d⟩ := a
      obtain ⟨t0, d0⟩ := a0
      obtain ⟨h1, h2, h3⟩ := he
      simp only at h1 h2 h3
      subst h1
      have : t = t0 := Array.ext_getElem? fun k => h3 k (by simp)
      rw [this]
    rw [this]; exact h
  | [], _ :: _, _, _, _, _, hl, _, _, _ => by simp at hl
  | _ :: _, [], _, _, _, _, hl, _, _, _ => by simp at hl
  | d :: ds, φ :: T, a0, a, w, p, hl, h, he, hr => by
    refine finV_of ds T (a0 := a0.put (some d) (a.eval (.tmp d))) (by simpa using hl) (h _ (hr 0 φ d (by simp) (by simp))) ⟨he.defers, by simpa [Act.put] using he.size, fun k hk => ?_⟩ (fun i φ' d' h1 h2 => hr (i + 1) φ' d' (by simpa using h1) (by simpa using h2))
    simp only [Act.put]
    by_cases hkd : d = k
    · subst hkd
      rw [Array.getElem?_setIfInBounds]
      simp only [if_true]
      by_cases hlt : d < a0.tmps.size
      · rw [if_pos hlt]
        have hlt' : d < a.tmps.size := by rw [he.size]; exact hlt
        simp [hlt', Act.eval]
      · rw [if_neg hlt]
        exact Array.getElem?_eq_none (by rw [he.size]; omega)
    · rw [Array.getElem?_setIfInBounds_ne hkd]
      exact he.slot k (by simp only [List.mem_cons, not_or]; exact ⟨fun e => hkd e.symm, hk⟩)
section
variable {P : Program} {ops : Array Oper} {md : Region.Mode}
def rowAt (T : List (Value → World → Prop)) (ds : List Nat) (i : Nat) (a : Act) (w : World) : Prop := ∀ φ d, T[i]? = some φ → ds[i]? = some d → φ (a.eval (.tmp d)) w
def stepsM (P : Program) (md : Region.Mode) (ops : Array Oper) (T : List (Value → World → Prop)) (ds : List Nat) (a0 : Act) (W : World) : List (Value → World → Prop) → List Oper → Prop
  | φ :: rs, o :: os => (∀ a, FrameEq ds a0 a → ∀ w, Below W.heap.size W w → (∀ j, (depsOf md o).contains j = true → rowAt T ds j a w) → mStep P ops φ o a w) ∧ stepsM P md ops T ds a0 W rs os
  | _, _ => True
theorem stepsM_get {T : List (Value → World → Prop)} {ds : List Nat} {a0 : Act} {W : World} : ∀ {rs : List (Value → World → Prop)} {os : List Oper}, stepsM P md ops T ds a0 W rs os → ∀ (i : Nat) φ o, rs[i]? = some φ → os[i]? = some o →
    (∀ a, FrameEq ds a0 a → ∀ w, Below W.heap.size W w → (∀ j, (depsOf md o).contains j = true → rowAt T ds j a w) → mStep P ops φ o a w)
  | [], _, _, i, r, o, hr, _ => by simp at hr
  | _ :: _, [], _, i, r, o, _, ho => by simp at ho
  | _ :: rs, _ :: os, h, 0, r, o, hr, ho => by
    simp only [List.getElem?_cons_zero, Option.some.injEq] at hr ho
    subst hr; subst ho
    exact h.1
  | _ :: rs, _ :: os, h, i + 1, r, o, hr, ho => stepsM_get h.2 i r o (by simpa using hr) (by simpa using ho)
def nodupB : List Nat → Bool
  | [] => true
  | d :: ds => !ds.contains d && nodupB ds
theorem nodupB_spec : ∀ {ds : List Nat}, nodupB ds = true → ∀ (i j d : Nat), ds[i]? = some d → ds[j]? = some d → i = j
  | [], _, i, _, d, h, _ => by simp at h
  | x :: ds, hB, i, j, d, hi, hj => by
    simp only [nodupB, Bool.and_eq_true, Bool.not_eq_true', List.contains_eq_mem, decide_eq_false_iff_not] at hB
    cases i with
    | zero =>
      cases j with
      | zero => rfl
      | succ j =>
        simp only [List.getElem?_cons_zero, Option.some.injEq] at hi
        subst hi
        exact absurd (List.mem_of_getElem? (by simpa using hj)) hB.1
    | succ i =>
      cases j with
      | zero =>
        simp only [List.getElem?_cons_zero, Option.some.injEq] at hj
        subst hj
        exact absurd (List.mem_of_getElem? (by simpa using hi)) hB.1
      | succ j => rw [nodupB_spec hB.2 i j d (by simpa using hi) (by simpa using hj)]
/-- What lies behind the head waits for it. -/
def tailB (md : Region.Mode) (ops : Array Oper) (n k : Nat) : Bool :=
  (List.range ops.size).all fun t => decide (t < k) || ((List.range n).all fun i => Region.waitsFor md ops t i) || (List.range t).any fun j => decide (k ≤ j) && Region.waitsFor md ops t j
/-- What is asked of the region's text. -/
def monoB (md : Region.Mode) (ops : Array Oper) (n k : Nat) (ds : List Nat) : Bool :=
  decide (ds.length = n) && decide (n ≤ k) && decide (k ≤ ops.size) && tailB md ops n k &&
  Region.seqB md ops (ops.size - k) k (Array.replicate k true ++ Array.replicate (ops.size - k) false) && nodupB ds &&
  ((List.range n).all fun i => match ops[i]? with
    | some o => (depsOf md o).all (fun j => decide (j < i)) && decide (o.dst = ds[i]?)
    | none => false)
def cntU : Nat → Array Bool → Nat
  | 0, _ => 0
  | n + 1, l => cntU n l + if l.getD n false = true then 0 else 1
theorem cntU_replicate (n m : Nat) : cntU n (Array.replicate m false) = n := by
  induction n with
  | zero => rfl
  | succ n ih => simp only [cntU]; rw [ih, getD_replicate_false]; simp
theorem cntU_above (n i : Nat) (l : Array Bool) (h : n ≤ i) : cntU n (l.setIfInBounds i true) = cntU n l := by
  induction n with
  | zero => rfl
  | succ n ih => simp only [cntU]; rw [ih (by omega), getD_set_ne false (by omega)]
theorem cntU_set (n i : Nat) (l : Array Bool) (hi : i < n) (hs : i < l.size) (hu : l.getD i false = false) : cntU n (l.setIfInBounds i true) + 1 = cntU n l := by
  induction n with
  | zero => omega
  | succ n ih =>
    simp only [cntU]
    by_cases h : i = n
    · subst h
      rw [cntU_above _ _ _ (Nat.le_refl _), hu]
      have : (l.setIfInBounds i true).getD i false = true := by simp [hs]
      rw [this]
      simp
    · rw [getD_set_ne false h]
      have := ih (by omega)
      omega
theorem cntU_zero (n : Nat) (l : Array Bool) (h : cntU n l = 0) : ∀ i, i < n → l.getD i false = true := by
  induction n with
  | zero => intro i hi; omega
  | succ n ih =>
    intro i hi
    simp only [cntU] at h
    by_cases hin : i = n
    · subst hin
      by_cases hc : l.getD i false = true
      · exact hc
      · rw [if_neg hc] at h; omega
    · exact ih (by omega) i (by omega)
theorem cntU_pos (n : Nat) (l : Array Bool) (h : cntU n l ≠ 0) : ∃ i, i < n ∧ l.getD i false = false ∧ ∀ j, j < i → l.getD j false = true := by
  induction n with
  | zero => exact absurd rfl h
  | succ n ih =>
    by_cases h0 : cntU n l = 0
    · simp only [cntU] at h
      refine ⟨n, by omega, ?_, cntU_zero n l h0⟩
      cases hc : l.getD n false with
      | false => rfl
      | true => rw [if_pos hc] at h; omega
    · obtain ⟨i, h1, h2, h3⟩ := ih h0
      exact ⟨i, by omega, h2, h3⟩
theorem mem_depsOf {o : Oper} {e : Edge} (he : e ∈ o.after) (hb : Region.binds md e = true) : e.on ∈ depsOf md o := by
  unfold depsOf
  rw [List.mem_map]
  exact ⟨e, List.mem_filter.2 ⟨by simpa using he, hb⟩, rfl⟩
structure MInv (md : Region.Mode) (ops : Array Oper) (n k : Nat) (T : List (Value → World → Prop)) (ds : List Nat) (a0 : Act) (W : World) (listed : Array Bool) (a : Act) (w : World) : Prop where
  size : listed.size = ops.size
  pre : ∀ t, n ≤ t → t < k → listed.getD t false = true
  tail : ∀ t, k ≤ t → t < ops.size → listed.getD t true = false
  bel : Below W.heap.size W w
  frame : FrameEq ds a0 a
  rows : ∀ (i : Nat), i < n → listed.getD i false = true → rowAt T ds i a w
theorem wpAny_mono {n k : Nat} {T : List (Value → World → Prop)} {ds : List Nat} {a0 : Act} {W : World} {l : List Oper} {Q : Exit → Act → World → Prop} (hl : l.toArray = ops) (hT : T.length = n) (hB : monoB md ops n k ds = true)
    (hin0 : ∀ d ∈ ds, d < a0.tmps.size) (hst : ∀ φ ∈ T, ∀ v w w', Below w.heap.size w w' → φ v w → φ v w') (hs : stepsM P md ops T ds a0 W T l)
    (hf : ∀ a, FrameEq ds a0 a → ∀ w, Below W.heap.size W w → (∀ (i : Nat), rowAt T ds i a w) → wpList P ops Q (l.drop k) a w) :
    ∀ (m : Nat) (listed : Array Bool) (a : Act) (w : World), cntU n listed = m → MInv md ops n k T ds a0 W listed a w → wpAny P md ops Q (m + (ops.size - k)) listed a w := by
  unfold monoB at hB
  simp only [Bool.and_eq_true, decide_eq_true_eq] at hB
  obtain ⟨⟨⟨⟨⟨⟨hlen, hnk⟩, hk⟩, htail⟩, hseq⟩, hnd⟩, hops⟩ := hB
  have hn : n ≤ ops.size := Nat.le_trans hnk hk
  have hlsz : l.length = ops.size := by rw [← hl]; simp
  intro m
  induction m with
  | zero =>
    intro listed a w hc inv
    have hall := cntU_zero n listed hc
    have hli : listed = Array.replicate k true ++ Array.replicate (ops.size - k) false := by
      refine Array.ext (by rw [inv.size]; simp; omega) fun i h1 h2 => ?_
      have hi : i < ops.size := by rw [← inv.size]; exact h1
      by_cases hik : i < k
      · have : listed.getD i false = true := by
          by_cases hin : i < n
          · exact hall i hin
          · exact inv.pre i (by omega) hik
        rw [Array.getElem_append_left (by simpa using hik)]
        simp [h1] at this
        simp [this]
      · have := inv.tail i (by omega) hi
        rw [Array.getElem_append_right (by simp; omega)]
        simp [h1] at this
        simp [this]
    rw [Nat.zero_add]
    have := wpAny_of_seq (P := P) (md := md) (ops := ops) (Q' := Q) (l.drop k) k listed a w (fun j => by rw [← hl]; simp) (by
      rw [List.length_drop, hlsz, hli]; exact hseq) (hf a inv.frame w inv.bel fun i φ d hr hd => by
        have hin : i < n := by
          have := (List.getElem?_eq_some_iff.1 hr).1
          omega
        exact inv.rows i hin (hall i hin) φ d hr hd)
    rwa [List.length_drop, hlsz] at this
  | succ m ih =>
    intro listed a w hc inv
    rw [show m + 1 + (ops.size - k) = (m + (ops.size - k)) + 1 by omega]
    refine ⟨fun h0 => ?_, fun i hi => ?_⟩
    · exfalso
      obtain ⟨i, h1, h2, h3⟩ := cntU_pos n listed (by omega)
      have hio := List.all_eq_true.1 hops i (List.mem_range.2 h1)
      obtain ⟨o, ho⟩ : ∃ o, ops[i]? = some o := ⟨_, Array.getElem?_eq_getElem (by omega)⟩
      rw [ho] at hio
      simp only [Bool.and_eq_true] at hio
      have : i ∈ Region.ready md ops listed := mem_ready.2 ⟨getD_in (by rw [inv.size]; omega) h2, o, ho, fun e he hb => h3 _ (by
        have := List.all_eq_true.1 hio.1 e.on (mem_depsOf he hb)
        simpa using this)⟩
      rw [h0] at this
      cases this
    · obtain ⟨hun, o, ho, hdep⟩ := mem_ready.1 hi
      have hunf := getD_both hun
      have hisz := (Array.getElem?_eq_some_iff.1 ho).1
      have hik : i < n ∨ k ≤ i := by
        rcases Nat.lt_or_ge i n with h | h
        · exact .inl h
        · rcases Nat.lt_or_ge i k with h' | h'
          · have := inv.pre i h h'
            rw [hunf] at this; cases this
          · exact .inr h'
      have hin : i < n := by
        rcases hik with h | h
        · exact h
        · exfalso
          obtain ⟨q, h1, h2, h3⟩ := cntU_pos n listed (by omega)
          have ht := List.all_eq_true.1 htail i (List.mem_range.2 hisz)
          simp only [Bool.or_eq_true, decide_eq_true_eq] at ht
          rcases ht with (ht | ht) | ht
          · omega
          · obtain ⟨oj, hoj, e, he, hb, hon⟩ := Region.waitsFor_spec (List.all_eq_true.1 ht q (List.mem_range.2 h1))
            obtain rfl : oj = o := Option.some.inj (hoj.symm.trans ho)
            have := hdep e he hb
            rw [hon, h2] at this
            cases this
          · obtain ⟨j, hj, hj2⟩ := List.any_eq_true.1 ht
            simp only [Bool.and_eq_true, decide_eq_true_eq] at hj2
            obtain ⟨oj, hoj, e, he, hb, hon⟩ := Region.waitsFor_spec hj2.2
            obtain rfl : oj = o := Option.some.inj (hoj.symm.trans ho)
            have := hdep e he hb
            have hjl := List.mem_range.1 hj
            rw [hon, getD_both (inv.tail j hj2.1 (by omega))] at this
            cases this
      obtain ⟨φ, hr⟩ : ∃ φ, T[i]? = some φ := ⟨_, List.getElem?_eq_getElem (by omega)⟩
      obtain ⟨d, hd⟩ : ∃ d, ds[i]? = some d := ⟨_, List.getElem?_eq_getElem (by omega)⟩
      have hio := List.all_eq_true.1 hops i (List.mem_range.2 hin)
      rw [ho] at hio
      simp only [Bool.and_eq_true, decide_eq_true_eq] at hio
      have hod : o.dst = some d := hio.2.trans hd
      have hlo : l[i]? = some o := by rw [← ho, ← hl]; simp
      have hstep := stepsM_get hs i φ o hr hlo a inv.frame w inv.bel (fun j hj => by
        have hji : j < i := by
          have := List.all_eq_true.1 hio.1 j (by simpa using hj)
          simpa using this
        refine inv.rows j (by omega) ?_
        unfold depsOf at hj
        simp only [List.contains_iff_mem, List.mem_map, List.mem_filter] at hj
        obtain ⟨e, ⟨he, hb⟩, rfl⟩ := hj
        exact hdep e (by simpa using he) hb)
      have hdm : d ∈ ds := List.mem_of_getElem? hd
      have hsz : d < a.tmps.size := by rw [inv.frame.size]; exact hin0 d hdm
      have hnext : ∀ v w', Below w.heap.size w w' → φ v w' → MInv md ops n k T ds a0 W (listed.setIfInBounds i true) (a.put o.dst v) w' := fun v w' hb hrv => by
        rw [hod]
        refine ⟨by simp [inv.size], fun t h1 h2 => getD_set_true (inv.pre t h1 h2), fun t h1 h2 => by rw [getD_set_ne true (by omega)]; exact inv.tail t h1 h2, inv.bel.trans (hb.mono inv.bel.size), inv.frame.put (fun k hk => (Option.some.inj hk) ▸ hdm) v, fun j hjn hjl ψ d' hr' hd' => ?_⟩
        by_cases hji : j = i
        · subst hji
          obtain rfl : ψ = φ := Option.some.inj (hr'.symm.trans hr)
          obtain rfl : d' = d := Option.some.inj (hd'.symm.trans hd)
          have : (a.put (some d') v).eval (.tmp d') = v := by simp [Act.eval, Act.put, hsz]
          rw [this]
          exact hrv
        · rw [getD_set_ne false (fun e => hji e.symm)] at hjl
          have h0 := inv.rows j hjn hjl ψ d' hr' hd'
          have h1 := hst ψ (List.mem_of_getElem? hr') _ w w' hb h0
          rw [Act.eval_put fun k hk e => ?_]
          · exact h1
          · cases e
            obtain rfl := Option.some.inj hk
            exact hji (nodupB_spec hnd j i _ hd' hd)
      have hcs : cntU n (listed.setIfInBounds i true) = m := by
        have := cntU_set n i listed hin (by rw [inv.size]; omega) hunf
        omega
      unfold wpOp
      simp only [ho]
      unfold mStep at hstep
      by_cases hw : Region.wanted o (yielded ops a.tmps) = true
      · rw [if_pos hw] at hstep ⊢
        refine .inl ?_
        unfold Oper.wp
        generalize (execOp a.eval o).run P w = res at *
        cases res with
        | ok nx w' =>
          cases nx <;> simp only [mUpon] at hstep <;> simp only [Oper.upon]
          case value u => exact ih _ _ _ hcs (hnext u w' hstep.1 hstep.2)
          case skip => exact ih _ _ _ hcs (hnext undef w' hstep.1 hstep.2)
          case enter f args =>
            refine hstep.mono ?_
            rintro e w'' ⟨v, rfl, h1, h2⟩
            exact ih _ _ _ hcs (hnext v w'' h1 h2)
        | halt x w' => simp only [mUpon] at hstep
      · rw [if_neg hw] at hstep ⊢
        exact ih _ _ _ hcs (hnext undef w (Below.refl _ _) hstep)
theorem mStep_val {φ : Value → World → Prop} {o : Oper} {a : Act} {w w' : World} {v : Value} (hg : o.guard = none) (hrun : (execOp a.eval o).run P w = .ok (.value v) w') (hb : Below w.heap.size w w') (h : φ v w') : mStep P ops φ o a w := by
  unfold mStep
  rw [if_pos (by simp [Region.wanted, hg]), hrun]
  exact ⟨hb, h⟩
theorem mStep_read {φ : Value → World → Prop} {o : Oper} {a : Act} {w : World} {v : Value} (hg : o.guard = none) (hrun : (execOp a.eval o).run P w = .ok (.value v) w) (h : φ v w) : mStep P ops φ o a w := mStep_val hg hrun (Below.refl _ _) h
theorem mStep_call {φ : Value → World → Prop} {o : Oper} {a : Act} {w : World} {f : FuncId} {args : Array Value} (hg : o.guard = none) (hrun : (execOp a.eval o).run P w = .ok (.enter f args) w) (hc : Calls P f args w fun e w' => ∃ v, e = .returned v ∧ Below w.heap.size w w' ∧ φ v w') : mStep P ops φ o a w := by
  unfold mStep
  rw [if_pos (by simp [Region.wanted, hg]), hrun]
  exact hc
theorem getD_some {t : Array Value} {d : Nat} {b : Bool} (h : t.getD d undef = .bool b) : t[d]? = some (.bool b) := by
  rw [Array.getD_eq_getD_getElem?] at h
  cases hq : t[d]? with
  | none => rw [hq] at h; simp [undef] at h
  | some v => rw [hq] at h; simp at h; rw [h]
/-- Behind a guard that lets it by. -/
theorem mStep_on {φ : Value → World → Prop} {o og : Oper} {a : Act} {w : World} {g d : Nat} {b : Bool} (hg : o.guard = some (g, b)) (ho : ops[g]? = some og) (hd : og.dst = some d) (hv : a.eval (.tmp d) = .bool b) (h : mUpon P (fun v w' => Below w.heap.size w w' ∧ φ v w') ((execOp a.eval o).run P w)) : mStep P ops φ o a w := by
  have hv' := getD_some hv
  unfold mStep
  rw [if_pos (by simp [Region.wanted, hg, yielded, ho, hd, hv'])]
  exact h
theorem mStep_off {φ : Value → World → Prop} {o og : Oper} {a : Act} {w : World} {g d : Nat} {b c : Bool} (hg : o.guard = some (g, b)) (ho : ops[g]? = some og) (hd : og.dst = some d) (hv : a.eval (.tmp d) = .bool c) (hbc : c ≠ b) (h : φ undef w) : mStep P ops φ o a w := by
  have hv' := getD_some hv
  unfold mStep
  rw [if_neg (by simp [Region.wanted, hg, yielded, ho, hd, hv', hbc])]
  exact h
theorem mStep_val_on {φ : Value → World → Prop} {o og : Oper} {a : Act} {w w' : World} {g d : Nat} {b : Bool} {v : Value} (hg : o.guard = some (g, b)) (ho : ops[g]? = some og) (hd : og.dst = some d) (hv : a.eval (.tmp d) = .bool b) (hrun : (execOp a.eval o).run P w = .ok (.value v) w') (hb : Below w.heap.size w w') (h : φ v w') : mStep P ops φ o a w :=
  mStep_on hg ho hd hv (by rw [hrun]; exact ⟨hb, h⟩)
theorem mStep_read_on {φ : Value → World → Prop} {o og : Oper} {a : Act} {w : World} {g d : Nat} {b : Bool} {v : Value} (hg : o.guard = some (g, b)) (ho : ops[g]? = some og) (hd : og.dst = some d) (hv : a.eval (.tmp d) = .bool b) (hrun : (execOp a.eval o).run P w = .ok (.value v) w) (h : φ v w) : mStep P ops φ o a w :=
  mStep_val_on hg ho hd hv hrun (Below.refl _ _) h
theorem mStep_call_on {φ : Value → World → Prop} {o og : Oper} {a : Act} {w : World} {g d : Nat} {b : Bool} {f : FuncId} {args : Array Value} (hg : o.guard = some (g, b)) (ho : ops[g]? = some og) (hd : og.dst = some d) (hv : a.eval (.tmp d) = .bool b) (hrun : (execOp a.eval o).run P w = .ok (.enter f args) w) (hc : Calls P f args w fun e w' => ∃ v, e = .returned v ∧ Below w.heap.size w w' ∧ φ v w') : mStep P ops φ o a w :=
  mStep_on hg ho hd hv (by rw [hrun]; exact hc)
/-- A row whose value is known. -/
def qR (v : Value) : Value → World → Prop := fun u _ => u = v
/-- THE LAW. -/
theorem wp_region_mono {id : Nat} {Q : Exit → Act → World → Prop} {a0 : Act} {w : World} {l : List Oper} (n : Nat) (ds : List Nat) (T : List (Value → World → Prop)) (hm : P.follows .mixedOrders = true) (hB : monoB .any l.toArray n n ds = true) (hT : T.length = n)
    (hin0 : (ds.all fun d => decide (d < a0.tmps.size)) = true) (hst : ∀ φ ∈ T, ∀ v w w', Below w.heap.size w w' → φ v w → φ v w') (hs : stepsM P .any l.toArray T ds a0 w.drew T l)
    (hf : ∀ w', Below w.heap.size w.drew w' → finV ds T a0 w' fun a => wpList P l.toArray Q (l.drop n) a w') : (Code.region id l.toArray true).wp P Q a0 w := by
  refine wp_region_any hm ?_
  have hn : n ≤ l.toArray.size ∧ ds.length = n := by
    unfold monoB at hB
    simp only [Bool.and_eq_true, decide_eq_true_eq] at hB
    exact ⟨hB.1.1.1.1.2, hB.1.1.1.1.1.1⟩
  have := wpAny_mono (P := P) (md := .any) (Q := Q) (a0 := a0) (W := w.drew) rfl hT hB (fun d hd => by simpa using List.all_eq_true.1 hin0 d hd) hst hs (fun a he w' hb hr => finV_of ds T (by rw [hT]; exact hn.2) (hf w' hb) he fun i φ d h1 h2 => hr i φ d h1 h2) n (Array.replicate l.toArray.size false) a0 w.drew (cntU_replicate _ _)
    ⟨by simp, fun t h1 h2 => by omega, fun t _ ht => getD_in (by simpa using ht) (getD_replicate_false _ _), Below.refl _ _, FrameEq.refl _ _, fun i _ h => (by rw [getD_replicate_false] at h; cases h)⟩
  rw [show n + (l.toArray.size - n) = l.toArray.size by omega] at this
  exact this
/-- THE LAW, where the operation behind the head but moves a slot's value on: nothing of the tail need wait for it. -/
theorem wp_region_mono_move {id : Nat} {Q : Exit → Act → World → Prop} {a0 : Act} {w : World} {l : List Oper} (n : Nat) (ds : List Nat) (T : List (Value → World → Prop)) {o : Oper} {x : Operand} (ho : l[n]? = some o) (hop : o.op = .move x) (hg : o.guard = none) (hm : P.follows .mixedOrders = true) (hB : monoB .any l.toArray n (n + 1) ds = true) (hT : T.length = n)
    (hsel : Region.noSelect l.toArray = true) (hfr : Region.free .any l.toArray (Array.replicate l.toArray.size false) n = true) (hrd : (Region.ready .any l.toArray (Array.replicate l.toArray.size false)).contains n = true)
    (hQ : ∀ c (a' : Act) w v, Q (.panic c) (a'.put o.dst v) w → Q (.panic c) a' w)
    (hin0 : (ds.all fun d => decide (d < a0.tmps.size)) = true) (hst : ∀ φ ∈ T, ∀ v w w', Below w.heap.size w w' → φ v w → φ v w') (hs : stepsM P .any l.toArray T ds (a0.put o.dst (a0.eval x)) w.drew T l)
    (hf : ∀ w', Below w.heap.size w.drew w' → finV ds T (a0.put o.dst (a0.eval x)) w' fun a => wpList P l.toArray Q (l.drop (n + 1)) a w') : (Code.region id l.toArray true).wp P Q a0 w := by
  refine wp_region_any hm ?_
  have hn : n + 1 ≤ l.toArray.size ∧ ds.length = n := by
    unfold monoB at hB
    simp only [Bool.and_eq_true, decide_eq_true_eq] at hB
    exact ⟨hB.1.1.1.1.2, hB.1.1.1.1.1.1⟩
  have hsz : ∀ v, (a0.put o.dst v).tmps.size = a0.tmps.size := fun v => by cases o.dst <;> simp [Act.put]
  have h := wpAny_mono (P := P) (md := .any) (Q := Q) (a0 := a0.put o.dst (a0.eval x)) (W := w.drew) (k := n + 1) rfl hT hB (fun d hd => by rw [hsz]; simpa using List.all_eq_true.1 hin0 d hd) hst hs (fun a he w' hb hr => finV_of ds T (by rw [hT]; exact hn.2) (hf w' hb) he fun i φ d h1 h2 => hr i φ d h1 h2) n ((Array.replicate l.toArray.size false).setIfInBounds n true) (a0.put o.dst (a0.eval x)) w.drew (by rw [cntU_above _ _ _ (Nat.le_refl _), cntU_replicate])
    ⟨by simp, fun t h1 h2 => (by
      obtain rfl : t = n := by omega
      simp at hn
      simp
      omega), fun t h1 h2 => (by rw [getD_set_ne true (by omega)]; exact getD_in (by simpa using h2) (getD_replicate_false _ _)), Below.refl _ _, FrameEq.refl _ _, fun i hi h => (by rw [getD_set_ne false (by omega), getD_replicate_false] at h; cases h)⟩
  have h3 := wpAny_take (md := .any) (i := n) (oi := o) (v := a0.eval x) (by simpa using ho) hsel hfr hrd (fun c a' w' hq => hQ c a' w' _ hq) (by
    refine .inl ⟨by simp [Region.wanted, hg], fun w' => ?_⟩
    simp [execOp, hop, Sem.run_pure]) h
  rw [show n + (l.toArray.size - (n + 1)) + 1 = l.toArray.size by omega] at h3
  exact h3
end
end Go.Proofs.Ytafhgigkhbcnjaa
