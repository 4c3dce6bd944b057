import Derived.StillTail
import Derived.Below
import Derived.Test.YtjbdhakogbolkaaDoorJ6
import Derived.Test.YtjbdhakogbolkaaDoorJ2
import Derived.Deep.RegionWith
import Derived.Deep.DeepCutAuto
section
/- A region that draws its order, whose operations may call, make memory and hand on values that no one knows beforehand: each operation keeps all that stands (Below); of each a fact about its slots is said ahead (a row), which stays true. The last operations may come one behind the other (they may write). -/
namespace Go.Proofs.YtjbdhakogbolkaaDoor
open Go.RowKit
def mUpon (P : Program) (K : Value → World → Prop) : Result Next → Prop
  | .ok (.value u) w' => K u w'
  | .ok .skip w' => K undef w'
  | .ok (.enter f args) w' => Calls P f args w' fun e w'' => ∃ v, e = .returned v ∧ K v w''
  | _ => False
theorem mUpon_value (P : Program) (K : Value → World → Prop) (u : Value) (w : World) : mUpon P K (.ok (.value u) w) = K u w := rfl
theorem mUpon_skip (P : Program) (K : Value → World → Prop) (w : World) : mUpon P K (.ok .skip w) = K undef w := rfl
theorem mUpon_enter (P : Program) (K : Value → World → Prop) (f : FuncId) (args : Array Value) (w : World) : mUpon P K (.ok (.enter f args) w) = Calls P f args w fun e w'' => ∃ v, e = .returned v ∧ K v w'' := rfl
def depsOf (md : Region.Mode) (o : Oper) : List Nat := (o.after.toList.filter (Region.binds md)).map (·.on)
/-- One operation, by itself: φ holds of what it answers. -/
def mStep (P : Program) (ops : Array Oper) (φ : Value → World → Prop) (o : Oper) (a : Act) (w : World) : Prop :=
  if Region.wanted o (yielded ops a.tmps) then mUpon P (fun v w' => Below w.heap.size w w' ∧ φ v w') ((execOp a.eval o).run P w) else φ undef w
/-- The frame, its slots filled one by one, and what holds of them. -/
def finV : List Nat → List (Value → World → Prop) → Act → World → (Act → Prop) → Prop
  | d :: ds, φ :: T, a, w, p => ∀ u, φ u w → finV ds T (a.put (some d) u) w p
  | _, _, a, _, p => p a
structure FrameEq (ds : List Nat) (a0 a : Act) : Prop where
  defers : a.defers = a0.defers
  size : a.tmps.size = a0.tmps.size
  slot : ∀ k, k ∉ ds → a.tmps[k]? = a0.tmps[k]?
theorem FrameEq.refl (ds : List Nat) (a : Act) : FrameEq ds a a := ⟨rfl, rfl, fun _ _ => rfl⟩
theorem FrameEq.put {ds : List Nat} {a0 a : Act} (h : FrameEq ds a0 a) {d : Option Nat} (hd : ∀ k, d = some k → k ∈ ds) (v : Value) : FrameEq ds a0 (a.put d v) := by
  cases d with
  | none => exact h
  | some d =>
    refine ⟨h.defers, by simpa [Act.put] using h.size, fun k hk => ?_⟩
    have hne : d ≠ k := fun e => hk (e ▸ hd d rfl)
    simp only [Act.put]
    rw [Array.getElem?_setIfInBounds_ne hne]
    exact h.slot k hk
theorem FrameEq.get {ds : List Nat} {a0 a : Act} (h : FrameEq ds a0 a) {k : Nat} (hk : ds.contains k = false) : a.eval (.tmp k) = a0.eval (.tmp k) := by
  have := h.slot k (by simpa using hk)
  simp only [Act.eval, Array.getD_eq_getD_getElem?, this]
theorem finV_of : ∀ (ds : List Nat) (T : List (Value → World → Prop)) {a0 a : Act} {w : World} {p : Act → Prop}, ds.length = T.length → finV ds T a0 w p → FrameEq ds a0 a → (∀ (i : Nat) φ d, T[i]? = some φ → ds[i]? = some d → φ (a.eval (.tmp d)) w) → p a
  | [], [], a0, a, w, p, _, h, he, _ => by
    have : a = a0 := by
      obtain ⟨t, d⟩ := a
      obtain ⟨t0, d0⟩ := a0
      obtain ⟨h1, h2, h3⟩ := he
      simp only at h1 h2 h3
      subst h1
      have : t = t0 := Array.ext_getElem? fun k => h3 k (by simp)
      rw [this]
    rw [this]; exact h
  | [], _ :: _, _, _, _, _, hl, _, _, _ => by simp at hl
  | _ :: _, [], _, _, _, _, hl, _, _, _ => by simp at hl
  | d :: ds, φ :: T, a0, a, w, p, hl, h, he, hr => by
    refine finV_of ds T (a0 := a0.put (some d) (a.eval (.tmp d))) (by simpa using hl) (h _ (hr 0 φ d (by simp) (by simp))) ⟨he.defers, by simpa [Act.put] using he.size, fun k hk => ?_⟩ (fun i φ' d' h1 h2 => hr (i + 1) φ' d' (by simpa using h1) (by simpa using h2))
    simp only [Act.put]
    by_cases hkd : d = k
    · subst hkd
      rw [Array.getElem?_setIfInBounds]
      simp only [if_true]
      by_cases hlt : d < a0.tmps.size
      · rw [if_pos hlt]
        have hlt' : d < a.tmps.size := by rw [he.size]; exact hlt
        simp [hlt', Act.eval]
      · rw [if_neg hlt]
        exact Array.getElem?_eq_none (by rw [he.size]; omega)
    · rw [Array.getElem?_setIfInBounds_ne hkd]
      exact he.slot k (by simp only [List.mem_cons, not_or]; exact ⟨fun e => hkd e.symm, hk⟩)
section
variable {P : Program} {ops : Array Oper} {md : Region.Mode}
def rowAt (T : List (Value → World → Prop)) (ds : List Nat) (i : Nat) (a : Act) (w : World) : Prop := ∀ φ d, T[i]? = some φ → ds[i]? = some d → φ (a.eval (.tmp d)) w
def stepsM (P : Program) (md : Region.Mode) (ops : Array Oper) (T : List (Value → World → Prop)) (ds : List Nat) (a0 : Act) (W : World) : List (Value → World → Prop) → List Oper → Prop
  | φ :: rs, o :: os => (∀ a, FrameEq ds a0 a → ∀ w, Below W.heap.size W w → (∀ j, (depsOf md o).contains j = true → rowAt T ds j a w) → mStep P ops φ o a w) ∧ stepsM P md ops T ds a0 W rs os
  | _, _ => True
theorem stepsM_get {T : List (Value → World → Prop)} {ds : List Nat} {a0 : Act} {W : World} : ∀ {rs : List (Value → World → Prop)} {os : List Oper}, stepsM P md ops T ds a0 W rs os → ∀ (i : Nat) φ o, rs[i]? = some φ → os[i]? = some o →
    (∀ a, FrameEq ds a0 a → ∀ w, Below W.heap.size W w → (∀ j, (depsOf md o).contains j = true → rowAt T ds j a w) → mStep P ops φ o a w)
  | [], _, _, i, r, o, hr, _ => by simp at hr
  | _ :: _, [], _, i, r, o, _, ho => by simp at ho
  | _ :: rs, _ :: os, h, 0, r, o, hr, ho => by
    simp only [List.getElem?_cons_zero, Option.some.injEq] at hr ho
    subst hr; subst ho
    exact h.1
  | _ :: rs, _ :: os, h, i + 1, r, o, hr, ho => stepsM_get h.2 i r o (by simpa using hr) (by simpa using ho)
def nodupB : List Nat → Bool
  | [] => true
  | d :: ds => !ds.contains d && nodupB ds
theorem nodupB_spec : ∀ {ds : List Nat}, nodupB ds = true → ∀ (i j d : Nat), ds[i]? = some d → ds[j]? = some d → i = j
  | [], _, i, _, d, h, _ => by simp at h
  | x :: ds, hB, i, j, d, hi, hj => by
    simp only [nodupB, Bool.and_eq_true, Bool.not_eq_true', List.contains_eq_mem, decide_eq_false_iff_not] at hB
    cases i with
    | zero =>
      cases j with
      | zero => rfl
      | succ j =>
        simp only [List.getElem?_cons_zero, Option.some.injEq] at hi
        subst hi
        exact absurd (List.mem_of_getElem? (by simpa using hj)) hB.1
    | succ i =>
      cases j with
      | zero =>
        simp only [List.getElem?_cons_zero, Option.some.injEq] at hj
        subst hj
        exact absurd (List.mem_of_getElem? (by simpa using hi)) hB.1
      | succ j => rw [nodupB_spec hB.2 i j d (by simpa using hi) (by simpa using hj)]
/-- What lies behind the head waits for it. -/
def tailB (md : Region.Mode) (ops : Array Oper) (n k : Nat) : Bool :=
  (List.range ops.size).all fun t => decide (t < k) || ((List.range n).all fun i => Region.waitsFor md ops t i) || (List.range t).any fun j => decide (k ≤ j) && Region.waitsFor md ops t j
/-- What is asked of the region's text. -/
def monoB (md : Region.Mode) (ops : Array Oper) (n k : Nat) (ds : List Nat) : Bool :=
  decide (ds.length = n) && decide (n ≤ k) && decide (k ≤ ops.size) && tailB md ops n k &&
  Region.seqB md ops (ops.size - k) k (Array.replicate k true ++ Array.replicate (ops.size - k) false) && nodupB ds &&
  ((List.range n).all fun i => match ops[i]? with
    | some o => (depsOf md o).all (fun j => decide (j < i)) && decide (o.dst = ds[i]?)
    | none => false)
def cntU : Nat → Array Bool → Nat
  | 0, _ => 0
  | n + 1, l => cntU n l + if l.getD n false = true then 0 else 1
theorem cntU_replicate (n m : Nat) : cntU n (Array.replicate m false) = n := by
  induction n with
  | zero => rfl
  | succ n ih => simp only [cntU]; rw [ih, getD_replicate_false]; simp
theorem cntU_above (n i : Nat) (l : Array Bool) (h : n ≤ i) : cntU n (l.setIfInBounds i true) = cntU n l := by
  induction n with
  | zero => rfl
  | succ n ih => simp only [cntU]; rw [ih (by omega), getD_set_ne false (by omega)]
theorem cntU_set (n i : Nat) (l : Array Bool) (hi : i < n) (hs : i < l.size) (hu : l.getD i false = false) : cntU n (l.setIfInBounds i true) + 1 = cntU n l := by
  induction n with
  | zero => omega
  | succ n ih =>
    simp only [cntU]
    by_cases h : i = n
    · subst h
      rw [cntU_above _ _ _ (Nat.le_refl _), hu]
      have : (l.setIfInBounds i true).getD i false = true := by simp [hs]
      rw [this]
      simp
    · rw [getD_set_ne false h]
      have := ih (by omega)
      omega
theorem cntU_zero (n : Nat) (l : Array Bool) (h : cntU n l = 0) : ∀ i, i < n → l.getD i false = true := by
  induction n with
  | zero => intro i hi; omega
  | succ n ih =>
    intro i hi
    simp only [cntU] at h
    by_cases hin : i = n
    · subst hin
      by_cases hc : l.getD i false = true
      · exact hc
      · rw [if_neg hc] at h; omega
    · exact ih (by omega) i (by omega)
theorem cntU_pos (n : Nat) (l : Array Bool) (h : cntU n l ≠ 0) : ∃ i, i < n ∧ l.getD i false = false ∧ ∀ j, j < i → l.getD j false = true := by
  induction n with
  | zero => exact absurd rfl h
  | succ n ih =>
    by_cases h0 : cntU n l = 0
    · simp only [cntU] at h
      refine ⟨n, by omega, ?_, cntU_zero n l h0⟩
      cases hc : l.getD n false with
      | false => rfl
      | true => rw [if_pos hc] at h; omega
    · obtain ⟨i, h1, h2, h3⟩ := ih h0
      exact ⟨i, by omega, h2, h3⟩
theorem mem_depsOf {o : Oper} {e : Edge} (he : e ∈ o.after) (hb : Region.binds md e = true) : e.on ∈ depsOf md o := by
  unfold depsOf
  rw [List.mem_map]
  exact ⟨e, List.mem_filter.2 ⟨by simpa using he, hb⟩, rfl⟩
structure MInv (md : Region.Mode) (ops : Array Oper) (n k : Nat) (T : List (Value → World → Prop)) (ds : List Nat) (a0 : Act) (W : World) (listed : Array Bool) (a : Act) (w : World) : Prop where
  size : listed.size = ops.size
  pre : ∀ t, n ≤ t → t < k → listed.getD t false = true
  tail : ∀ t, k ≤ t → t < ops.size → listed.getD t true = false
  bel : Below W.heap.size W w
  frame : FrameEq ds a0 a
  rows : ∀ (i : Nat), i < n → listed.getD i false = true → rowAt T ds i a w
theorem wpAny_mono {n k : Nat} {T : List (Value → World → Prop)} {ds : List Nat} {a0 : Act} {W : World} {l : List Oper} {Q : Exit → Act → World → Prop} (hl : l.toArray = ops) (hT : T.length = n) (hB : monoB md ops n k ds = true)
    (hin0 : ∀ d ∈ ds, d < a0.tmps.size) (hst : ∀ φ ∈ T, ∀ v w w', Below w.heap.size w w' → φ v w → φ v w') (hs : stepsM P md ops T ds a0 W T l)
    (hf : ∀ a, FrameEq ds a0 a → ∀ w, Below W.heap.size W w → (∀ (i : Nat), rowAt T ds i a w) → wpList P ops Q (l.drop k) a w) :
    ∀ (m : Nat) (listed : Array Bool) (a : Act) (w : World), cntU n listed = m → MInv md ops n k T ds a0 W listed a w → wpAny P md ops Q (m + (ops.size - k)) listed a w := by
  unfold monoB at hB
  simp only [Bool.and_eq_true, decide_eq_true_eq] at hB
  obtain ⟨⟨⟨⟨⟨⟨hlen, hnk⟩, hk⟩, htail⟩, hseq⟩, hnd⟩, hops⟩ := hB
  have hn : n ≤ ops.size := Nat.le_trans hnk hk
  have hlsz : l.length = ops.size := by rw [← hl]; simp
  intro m
  induction m with
  | zero =>
    intro listed a w hc inv
    have hall := cntU_zero n listed hc
    have hli : listed = Array.replicate k true ++ Array.replicate (ops.size - k) false := by
      refine Array.ext (by rw [inv.size]; simp; omega) fun i h1 h2 => ?_
      have hi : i < ops.size := by rw [← inv.size]; exact h1
      by_cases hik : i < k
      · have : listed.getD i false = true := by
          by_cases hin : i < n
          · exact hall i hin
          · exact inv.pre i (by omega) hik
        rw [Array.getElem_append_left (by simpa using hik)]
        simp [h1] at this
        simp [this]
      · have := inv.tail i (by omega) hi
        rw [Array.getElem_append_right (by simp; omega)]
        simp [h1] at this
        simp [this]
    rw [Nat.zero_add]
    have := wpAny_of_seq (P := P) (md := md) (ops := ops) (Q' := Q) (l.drop k) k listed a w (fun j => by rw [← hl]; simp) (by
      rw [List.length_drop, hlsz, hli]; exact hseq) (hf a inv.frame w inv.bel fun i φ d hr hd => by
        have hin : i < n := by
          have := (List.getElem?_eq_some_iff.1 hr).1
          omega
        exact inv.rows i hin (hall i hin) φ d hr hd)
    rwa [List.length_drop, hlsz] at this
  | succ m ih =>
    intro listed a w hc inv
    rw [show m + 1 + (ops.size - k) = (m + (ops.size - k)) + 1 by omega]
    refine ⟨fun h0 => ?_, fun i hi => ?_⟩
    · exfalso
      obtain ⟨i, h1, h2, h3⟩ := cntU_pos n listed (by omega)
      have hio := List.all_eq_true.1 hops i (List.mem_range.2 h1)
      obtain ⟨o, ho⟩ : ∃ o, ops[i]? = some o := ⟨_, Array.getElem?_eq_getElem (by omega)⟩
      rw [ho] at hio
      simp only [Bool.and_eq_true] at hio
      have : i ∈ Region.ready md ops listed := mem_ready.2 ⟨getD_in (by rw [inv.size]; omega) h2, o, ho, fun e he hb => h3 _ (by
        have := List.all_eq_true.1 hio.1 e.on (mem_depsOf he hb)
        simpa using this)⟩
      rw [h0] at this
      cases this
    · obtain ⟨hun, o, ho, hdep⟩ := mem_ready.1 hi
      have hunf := getD_both hun
      have hisz := (Array.getElem?_eq_some_iff.1 ho).1
      have hik : i < n ∨ k ≤ i := by
        rcases Nat.lt_or_ge i n with h | h
        · exact .inl h
        · rcases Nat.lt_or_ge i k with h' | h'
          · have := inv.pre i h h'
            rw [hunf] at this; cases this
          · exact .inr h'
      have hin : i < n := by
        rcases hik with h | h
        · exact h
        · exfalso
          obtain ⟨q, h1, h2, h3⟩ := cntU_pos n listed (by omega)
          have ht := List.all_eq_true.1 htail i (List.mem_range.2 hisz)
          simp only [Bool.or_eq_true, decide_eq_true_eq] at ht
          rcases ht with (ht | ht) | ht
          · omega
          · obtain ⟨oj, hoj, e, he, hb, hon⟩ := Region.waitsFor_spec (List.all_eq_true.1 ht q (List.mem_range.2 h1))
            obtain rfl : oj = o := Option.some.inj (hoj.symm.trans ho)
            have := hdep e he hb
            rw [hon, h2] at this
            cases this
          · obtain ⟨j, hj, hj2⟩ := List.any_eq_true.1 ht
            simp only [Bool.and_eq_true, decide_eq_true_eq] at hj2
            obtain ⟨oj, hoj, e, he, hb, hon⟩ := Region.waitsFor_spec hj2.2
            obtain rfl : oj = o := Option.some.inj (hoj.symm.trans ho)
            have := hdep e he hb
            have hjl := List.mem_range.1 hj
            rw [hon, getD_both (inv.tail j hj2.1 (by omega))] at this
            cases this
      obtain ⟨φ, hr⟩ : ∃ φ, T[i]? = some φ := ⟨_, List.getElem?_eq_getElem (by omega)⟩
      obtain ⟨d, hd⟩ : ∃ d, ds[i]? = some d := ⟨_, List.getElem?_eq_getElem (by omega)⟩
      have hio := List.all_eq_true.1 hops i (List.mem_range.2 hin)
      rw [ho] at hio
      simp only [Bool.and_eq_true, decide_eq_true_eq] at hio
      have hod : o.dst = some d := hio.2.trans hd
      have hlo : l[i]? = some o := by rw [← ho, ← hl]; simp
      have hstep := stepsM_get hs i φ o hr hlo a inv.frame w inv.bel (fun j hj => by
        have hji : j < i := by
          have := List.all_eq_true.1 hio.1 j (by simpa using hj)
          simpa using this
        refine inv.rows j (by omega) ?_
        unfold depsOf at hj
        simp only [List.contains_iff_mem, List.mem_map, List.mem_filter] at hj
        obtain ⟨e, ⟨he, hb⟩, rfl⟩ := hj
        exact hdep e (by simpa using he) hb)
      have hdm : d ∈ ds := List.mem_of_getElem? hd
      have hsz : d < a.tmps.size := by rw [inv.frame.size]; exact hin0 d hdm
      have hnext : ∀ v w', Below w.heap.size w w' → φ v w' → MInv md ops n k T ds a0 W (listed.setIfInBounds i true) (a.put o.dst v) w' := fun v w' hb hrv => by
        rw [hod]
        refine ⟨by simp [inv.size], fun t h1 h2 => getD_set_true (inv.pre t h1 h2), fun t h1 h2 => by rw [getD_set_ne true (by omega)]; exact inv.tail t h1 h2, inv.bel.trans (hb.mono inv.bel.size), inv.frame.put (fun k hk => (Option.some.inj hk) ▸ hdm) v, fun j hjn hjl ψ d' hr' hd' => ?_⟩
        by_cases hji : j = i
        · subst hji
          obtain rfl : ψ = φ := Option.some.inj (hr'.symm.trans hr)
          obtain rfl : d' = d := Option.some.inj (hd'.symm.trans hd)
          have : (a.put (some d') v).eval (.tmp d') = v := by simp [Act.eval, Act.put, hsz]
          rw [this]
          exact hrv
        · rw [getD_set_ne false (fun e => hji e.symm)] at hjl
          have h0 := inv.rows j hjn hjl ψ d' hr' hd'
          have h1 := hst ψ (List.mem_of_getElem? hr') _ w w' hb h0
          rw [Act.eval_put fun k hk e => ?_]
          · exact h1
          · cases e
            obtain rfl := Option.some.inj hk
            exact hji (nodupB_spec hnd j i _ hd' hd)
      have hcs : cntU n (listed.setIfInBounds i true) = m := by
        have := cntU_set n i listed hin (by rw [inv.size]; omega) hunf
        omega
      unfold wpOp
      simp only [ho]
      unfold mStep at hstep
      by_cases hw : Region.wanted o (yielded ops a.tmps) = true
      · rw [if_pos hw] at hstep ⊢
        refine .inl ?_
        unfold Oper.wp
        generalize (execOp a.eval o).run P w = res at *
        cases res with
        | ok nx w' =>
          cases nx <;> simp only [mUpon] at hstep <;> simp only [Oper.upon]
          case value u => exact ih _ _ _ hcs (hnext u w' hstep.1 hstep.2)
          case skip => exact ih _ _ _ hcs (hnext undef w' hstep.1 hstep.2)
          case enter f args =>
            refine hstep.mono ?_
            rintro e w'' ⟨v, rfl, h1, h2⟩
            exact ih _ _ _ hcs (hnext v w'' h1 h2)
        | halt x w' => simp only [mUpon] at hstep
      · rw [if_neg hw] at hstep ⊢
        exact ih _ _ _ hcs (hnext undef w (Below.refl _ _) hstep)
theorem mStep_val {φ : Value → World → Prop} {o : Oper} {a : Act} {w w' : World} {v : Value} (hg : o.guard = none) (hrun : (execOp a.eval o).run P w = .ok (.value v) w') (hb : Below w.heap.size w w') (h : φ v w') : mStep P ops φ o a w := by
  unfold mStep
  rw [if_pos (by simp [Region.wanted, hg]), hrun]
  exact ⟨hb, h⟩
theorem mStep_read {φ : Value → World → Prop} {o : Oper} {a : Act} {w : World} {v : Value} (hg : o.guard = none) (hrun : (execOp a.eval o).run P w = .ok (.value v) w) (h : φ v w) : mStep P ops φ o a w := mStep_val hg hrun (Below.refl _ _) h
theorem mStep_call {φ : Value → World → Prop} {o : Oper} {a : Act} {w : World} {f : FuncId} {args : Array Value} (hg : o.guard = none) (hrun : (execOp a.eval o).run P w = .ok (.enter f args) w) (hc : Calls P f args w fun e w' => ∃ v, e = .returned v ∧ Below w.heap.size w w' ∧ φ v w') : mStep P ops φ o a w := by
  unfold mStep
  rw [if_pos (by simp [Region.wanted, hg]), hrun]
  exact hc
theorem getD_some {t : Array Value} {d : Nat} {b : Bool} (h : t.getD d undef = .bool b) : t[d]? = some (.bool b) := by
  rw [Array.getD_eq_getD_getElem?] at h
  cases hq : t[d]? with
  | none => rw [hq] at h; simp [undef] at h
  | some v => rw [hq] at h; simp at h; rw [h]
/-- Behind a guard that lets it by. -/
theorem mStep_on {φ : Value → World → Prop} {o og : Oper} {a : Act} {w : World} {g d : Nat} {b : Bool} (hg : o.guard = some (g, b)) (ho : ops[g]? = some og) (hd : og.dst = some d) (hv : a.eval (.tmp d) = .bool b) (h : mUpon P (fun v w' => Below w.heap.size w w' ∧ φ v w') ((execOp a.eval o).run P w)) : mStep P ops φ o a w := by
  have hv' := getD_some hv
  unfold mStep
  rw [if_pos (by simp [Region.wanted, hg, yielded, ho, hd, hv'])]
  exact h
theorem mStep_off {φ : Value → World → Prop} {o og : Oper} {a : Act} {w : World} {g d : Nat} {b c : Bool} (hg : o.guard = some (g, b)) (ho : ops[g]? = some og) (hd : og.dst = some d) (hv : a.eval (.tmp d) = .bool c) (hbc : c ≠ b) (h : φ undef w) : mStep P ops φ o a w := by
  have hv' := getD_some hv
  unfold mStep
  rw [if_neg (by simp [Region.wanted, hg, yielded, ho, hd, hv', hbc])]
  exact h
theorem mStep_val_on {φ : Value → World → Prop} {o og : Oper} {a : Act} {w w' : World} {g d : Nat} {b : Bool} {v : Value} (hg : o.guard = some (g, b)) (ho : ops[g]? = some og) (hd : og.dst = some d) (hv : a.eval (.tmp d) = .bool b) (hrun : (execOp a.eval o).run P w = .ok (.value v) w') (hb : Below w.heap.size w w') (h : φ v w') : mStep P ops φ o a w :=
  mStep_on hg ho hd hv (by rw [hrun]; exact ⟨hb, h⟩)
theorem mStep_read_on {φ : Value → World → Prop} {o og : Oper} {a : Act} {w : World} {g d : Nat} {b : Bool} {v : Value} (hg : o.guard = some (g, b)) (ho : ops[g]? = some og) (hd : og.dst = some d) (hv : a.eval (.tmp d) = .bool b) (hrun : (execOp a.eval o).run P w = .ok (.value v) w) (h : φ v w) : mStep P ops φ o a w :=
  mStep_val_on hg ho hd hv hrun (Below.refl _ _) h
theorem mStep_call_on {φ : Value → World → Prop} {o og : Oper} {a : Act} {w : World} {g d : Nat} {b : Bool} {f : FuncId} {args : Array Value} (hg : o.guard = some (g, b)) (ho : ops[g]? = some og) (hd : og.dst = some d) (hv : a.eval (.tmp d) = .bool b) (hrun : (execOp a.eval o).run P w = .ok (.enter f args) w) (hc : Calls P f args w fun e w' => ∃ v, e = .returned v ∧ Below w.heap.size w w' ∧ φ v w') : mStep P ops φ o a w :=
  mStep_on hg ho hd hv (by rw [hrun]; exact hc)
/-- A row whose value is known. -/
def qR (v : Value) : Value → World → Prop := fun u _ => u = v
/-- THE LAW. -/
theorem wp_region_mono {id : Nat} {Q : Exit → Act → World → Prop} {a0 : Act} {w : World} {l : List Oper} (n : Nat) (ds : List Nat) (T : List (Value → World → Prop)) (hm : P.follows .mixedOrders = true) (hB : monoB .any l.toArray n n ds = true) (hT : T.length = n)
    (hin0 : (ds.all fun d => decide (d < a0.tmps.size)) = true) (hst : ∀ φ ∈ T, ∀ v w w', Below w.heap.size w w' → φ v w → φ v w') (hs : stepsM P .any l.toArray T ds a0 w.drew T l)
    (hf : ∀ w', Below w.heap.size w.drew w' → finV ds T a0 w' fun a => wpList P l.toArray Q (l.drop n) a w') : (Code.region id l.toArray true).wp P Q a0 w := by
  refine wp_region_any hm ?_
  have hn : n ≤ l.toArray.size ∧ ds.length = n := by
    unfold monoB at hB
    simp only [Bool.and_eq_true, decide_eq_true_eq] at hB
    exact ⟨hB.1.1.1.1.2, hB.1.1.1.1.1.1⟩
  have := wpAny_mono (P := P) (md := .any) (Q := Q) (a0 := a0) (W := w.drew) rfl hT hB (fun d hd => by simpa using List.all_eq_true.1 hin0 d hd) hst hs (fun a he w' hb hr => finV_of ds T (by rw [hT]; exact hn.2) (hf w' hb) he fun i φ d h1 h2 => hr i φ d h1 h2) n (Array.replicate l.toArray.size false) a0 w.drew (cntU_replicate _ _)
    ⟨by simp, fun t h1 h2 => by omega, fun t _ ht => getD_in (by simpa using ht) (getD_replicate_false _ _), Below.refl _ _, FrameEq.refl _ _, fun i _ h => (by rw [getD_replicate_false] at h; cases h)⟩
  rw [show n + (l.toArray.size - n) = l.toArray.size by omega] at this
  exact this
/-- THE LAW, where the operation behind the head but moves a slot's value on: nothing of the tail need wait for it. -/
theorem wp_region_mono_move {id : Nat} {Q : Exit → Act → World → Prop} {a0 : Act} {w : World} {l : List Oper} (n : Nat) (ds : List Nat) (T : List (Value → World → Prop)) {o : Oper} {x : Operand} (ho : l[n]? = some o) (hop : o.op = .move x) (hg : o.guard = none) (hm : P.follows .mixedOrders = true) (hB : monoB .any l.toArray n (n + 1) ds = true) (hT : T.length = n)
    (hsel : Region.noSelect l.toArray = true) (hfr : Region.free .any l.toArray (Array.replicate l.toArray.size false) n = true) (hrd : (Region.ready .any l.toArray (Array.replicate l.toArray.size false)).contains n = true)
    (hQ : ∀ c (a' : Act) w v, Q (.panic c) (a'.put o.dst v) w → Q (.panic c) a' w)
    (hin0 : (ds.all fun d => decide (d < a0.tmps.size)) = true) (hst : ∀ φ ∈ T, ∀ v w w', Below w.heap.size w w' → φ v w → φ v w') (hs : stepsM P .any l.toArray T ds (a0.put o.dst (a0.eval x)) w.drew T l)
    (hf : ∀ w', Below w.heap.size w.drew w' → finV ds T (a0.put o.dst (a0.eval x)) w' fun a => wpList P l.toArray Q (l.drop (n + 1)) a w') : (Code.region id l.toArray true).wp P Q a0 w := by
  refine wp_region_any hm ?_
  have hn : n + 1 ≤ l.toArray.size ∧ ds.length = n := by
    unfold monoB at hB
    simp only [Bool.and_eq_true, decide_eq_true_eq] at hB
    exact ⟨hB.1.1.1.1.2, hB.1.1.1.1.1.1⟩
  have hsz : ∀ v, (a0.put o.dst v).tmps.size = a0.tmps.size := fun v => by cases o.dst <;> simp [Act.put]
  have h := wpAny_mono (P := P) (md := .any) (Q := Q) (a0 := a0.put o.dst (a0.eval x)) (W := w.drew) (k := n + 1) rfl hT hB (fun d hd => by rw [hsz]; simpa using List.all_eq_true.1 hin0 d hd) hst hs (fun a he w' hb hr => finV_of ds T (by rw [hT]; exact hn.2) (hf w' hb) he fun i φ d h1 h2 => hr i φ d h1 h2) n ((Array.replicate l.toArray.size false).setIfInBounds n true) (a0.put o.dst (a0.eval x)) w.drew (by rw [cntU_above _ _ _ (Nat.le_refl _), cntU_replicate])
    ⟨by simp, fun t h1 h2 => (by
      obtain rfl : t = n := by omega
      simp at hn
      simp
      omega), fun t h1 h2 => (by rw [getD_set_ne true (by omega)]; exact getD_in (by simpa using h2) (getD_replicate_false _ _)), Below.refl _ _, FrameEq.refl _ _, fun i hi h => (by rw [getD_set_ne false (by omega), getD_replicate_false] at h; cases h)⟩
  have h3 := wpAny_take (md := .any) (i := n) (oi := o) (v := a0.eval x) (by simpa using ho) hsel hfr hrd (fun c a' w' hq => hQ c a' w' _ hq) (by
    refine .inl ⟨by simp [Region.wanted, hg], fun w' => ?_⟩
    simp [execOp, hop, Sem.run_pure]) h
  rw [show n + (l.toArray.size - (n + 1)) + 1 = l.toArray.size by omega] at h3
  exact h3
end
end Go.Proofs.YtjbdhakogbolkaaDoor
end
section
/- model.New: its contract; what a model is in memory. -/
namespace Go.Proofs.YtjbdhakogbolkaaDoor
open Go.RowKit Go.Sort Go.Joins Go.Maps Go.WideMaps
set_option linter.unusedVariables false
/-- A model of its own lies at block g: all that it holds lies from lo on. -/
def ModelAt (w : World) (lo g : Nat) (ws : List ByteArray) (ms : List Mg) (A B C : List Sp) : Prop :=
  ∃ a0 c0 a1 c1 a2 c2 a3 c3 a4 c4 gt gr, lo ≤ g ∧ lo ≤ gr ∧ w.heap[g]? = some (.cells #[.slice a0 ws.length c0, .slice a1 ms.length c1, .slice a2 A.length c2, .slice a3 B.length c3, .slice a4 C.length c4, .pointer (some ⟨gt, 0, none⟩), .map (some gr), .int .i64 (longM ws : Nat)] 96 (0, 0)) ∧
    OwnD w lo a0 c0 a1 c1 a2 c2 a3 c3 a4 c4 ws ms A B C ∧ OwnT w lo gt A B C ∧ MapI w 99 pairV gr ms.length (rankF ms)
/-- A model whose merges have no ranks yet. -/
def MPre (w : World) (lo g : Nat) (ws : List ByteArray) (ms : List Mg) (A B C : List Sp) : Prop :=
  ∃ a0 c0 a1 c1 a2 c2 a3 c3 a4 c4 gt gr, lo ≤ g ∧ lo ≤ gr ∧ w.heap[g]? = some (.cells #[.slice a0 ws.length c0, .slice a1 ms.length c1, .slice a2 A.length c2, .slice a3 B.length c3, .slice a4 C.length c4, .pointer (some ⟨gt, 0, none⟩), .map (some gr), .int .i64 (longM ws : Nat)] 96 (0, 0)) ∧
    OwnD w lo a0 c0 a1 c1 a2 c2 a3 c3 a4 c4 ws ms A B C ∧ OwnT w lo gt A B C ∧ MapI w 99 pairV gr 0 (fun _ => none)
theorem MPre.below {w w' : World} {lo g : Nat} {ws : List ByteArray} {ms : List Mg} {A B C : List Sp} (h : MPre w lo g ws ms A B C) (hb : Below w.heap.size w w') : MPre w' lo g ws ms A B C := by
  obtain ⟨a0, c0, a1, c1, a2, c2, a3, c3, a4, c4, gt, gr, h1, h2, h3, h4, h5, h6⟩ := h
  exact ⟨a0, c0, a1, c1, a2, c2, a3, c3, a4, c4, gt, gr, h1, h2, (hb.block _ (Array.getElem?_eq_some_iff.1 h3).1).trans h3, h4.below hb, h5.below hb, h6.below hb h6.lt⟩
theorem ModelAt.away {w : World} {lo g : Nat} {ws : List ByteArray} {ms : List Mg} {A B C : List Sp} (h : ModelAt w lo g ws ms A B C) {b o : Nat} (hb : b < lo) (v : Value) : ModelAt (w.setCell ⟨b, o, none⟩ v) lo g ws ms A B C := by
  obtain ⟨a0, c0, a1, c1, a2, c2, a3, c3, a4, c4, gt, gr, h1, h2, h3, h4, h5, h6⟩ := h
  have hk : ∀ k, lo ≤ k → (w.setCell ⟨b, o, none⟩ v).heap[k]? = w.heap[k]? := fun k hk => Below.heap_setCell _ _ _ k (fun e => by have e' : k = b := e; omega)
  exact ⟨a0, c0, a1, c1, a2, c2, a3, c3, a4, c4, gt, gr, h1, h2, (hk _ h1).trans h3, h4.away hb v, h5.away hb v, h6.kept (hk _ h2)⟩
theorem ModelAt.low {w : World} {lo lo' g : Nat} {ws : List ByteArray} {ms : List Mg} {A B C : List Sp} (h : ModelAt w lo g ws ms A B C) (hl : lo' ≤ lo) : ModelAt w lo' g ws ms A B C := by
  obtain ⟨a0, c0, a1, c1, a2, c2, a3, c3, a4, c4, gt, gr, h1, h2, h3, h4, h5, h6⟩ := h
  exact ⟨a0, c0, a1, c1, a2, c2, a3, c3, a4, c4, gt, gr, by omega, by omega, h3, h4.low hl, h5.low hl, h6⟩
theorem ModelAt.below {w w' : World} {lo g : Nat} {ws : List ByteArray} {ms : List Mg} {A B C : List Sp} (h : ModelAt w lo g ws ms A B C) (hb : Below w.heap.size w w') : ModelAt w' lo g ws ms A B C := by
  obtain ⟨a0, c0, a1, c1, a2, c2, a3, c3, a4, c4, gt, gr, h1, h2, h3, h4, h5, h6⟩ := h
  exact ⟨a0, c0, a1, c1, a2, c2, a3, c3, a4, c4, gt, gr, h1, h2, (hb.block _ (Array.getElem?_eq_some_iff.1 h3).1).trans h3, h4.below hb, h5.below hb, h6.below hb h6.lt⟩
theorem checkD_num {ws : List ByteArray} {ms : List Mg} {A B C : List Sp} (h : (numF ws.length ms.length).1 ≠ 0) : checkD ws ms A B C = numF ws.length ms.length := by
  unfold checkD numF at *
  by_cases h1 : 4096 < ms.length
  · rw [if_pos h1, if_pos h1]
  · rw [if_neg h1] at h
    by_cases h2 : ws.length ≠ ms.length
    · rw [if_neg h1, if_neg h1, if_pos h2, if_pos h2]
    · rw [if_neg h2] at h; exact absurd rfl h
theorem num_zero {n m : Nat} (h : (numF n m).1 = 0) : m ≤ 4096 ∧ n = m := by
  unfold numF at h
  by_cases h1 : 4096 < m
  · rw [if_pos h1] at h; cases h
  · rw [if_neg h1] at h
    by_cases h2 : n ≠ m
    · rw [if_pos h2] at h; cases h
    · exact ⟨by omega, by simpa using h2⟩
theorem checkD_zero {ws : List ByteArray} {ms : List Mg} {A B C : List Sp} (h : (numF ws.length ms.length).1 = 0) : checkD ws ms A B C =
    if (checkA A B C).1 ≠ 0 then checkA A B C
    else if (firstBad (badW ws) ws.length).1 ≠ 0 then ((firstBad (badW ws) ws.length).1, 4, (firstBad (badW ws) ws.length).2)
    else if (firstBad (badM ws ms) ms.length).1 ≠ 0 then ((firstBad (badM ws ms) ms.length).1, 5, (firstBad (badM ws ms) ms.length).2)
    else (0, 0, 0) := by
  obtain ⟨h1, h2⟩ := num_zero h
  unfold checkD
  rw [if_neg (by omega), if_neg (by simpa using h2)]
set_option maxRecDepth 100000 in
set_option maxHeartbeats 4000000 in
theorem mnew_any (aw am a b c : Option Addr) (cw cm ca cb cc : Nat) (ws : List ByteArray) (ms : List Mg) (A B C : List Sp) (w : World) (hwf : MWf ms) (hn : ws.length ≤ 4611686018427387) (hW : WSP w aw ws) (hM : MSP w am ms) (hA : Lst w a ca A) (hB : Lst w b cb B) (hC : Lst w c cc C) (hG : GL w) :
    Calls Tryd.prog 26 #[.agg #[.slice aw ws.length cw, .slice am ms.length cm, .slice a A.length ca, .slice b B.length cb, .slice c C.length cc]] w fun e w' => ∃ p, e = .returned (.tuple #[.pointer p, f3V (checkD ws ms A B C)]) ∧ ((checkD ws ms A B C).1 = 0 → ∃ g, p = some ⟨g, 0, none⟩ ∧ ModelAt w' w.heap.size g ws ms A B C) ∧ ((checkD ws ms A B C).1 ≠ 0 → p = none) ∧ Below w.heap.size w w' := by
  have hD := DBox.new w (.slice aw ws.length cw) (.slice am ms.length cm) (.slice a A.length ca) (.slice b B.length cb) (.slice c C.length cc)
  have hb := box_below w (.cells #[.slice aw ws.length cw, .slice am ms.length cm, .slice a A.length ca, .slice b B.length cb, .slice c C.length cc] 30)
  have hR := heap_alloc_new (w.alloc (.cells #[.slice aw ws.length cw, .slice am ms.length cm, .slice a A.length ca, .slice b B.length cb, .slice c C.length cc] 30)) (.cells #[.int .i64 0, .int .i64 0, .int .i64 0] 68)
  have hb2 := hb.alloc hb.size (.cells #[.int .i64 0, .int .i64 0, .int .i64 0] 68)
  have hD2 := hD.below (box_below (w.alloc (.cells #[.slice aw ws.length cw, .slice am ms.length cm, .slice a A.length ca, .slice b B.length cb, .slice c C.length cc] 30)) (.cells #[.int .i64 0, .int .i64 0, .int .i64 0] 68)) hD.lt
  rw [show (w.alloc (.cells #[.slice aw ws.length cw, .slice am ms.length cm, .slice a A.length ca, .slice b B.length cb, .slice c C.length cc] 30)).heap.size = w.heap.size + 1 by simp] at hR
  have hNum := fun wx => numbers_any aw am a b c ws.length cw ms.length cm A.length ca B.length cb C.length cc wx
  have HW0 : Hid (WSP w aw ws) := hW
  have HM0 : Hid (MSP w am ms) := hM
  have HA0 : Hid (Lst w a ca A) := hA
  have HB0 : Hid (Lst w b cb B) := hB
  have HC0 : Hid (Lst w c cc C) := hC
  have HG0 : Hid (GL w) := hG
  obtain ⟨⟨y, li, ro⟩, hy⟩ : ∃ y, y = numF ws.length ms.length := ⟨_, rfl⟩
  rw [← hy] at hNum
  have HN1 : Hid (y ≠ 0 → checkD ws ms A B C = (y, li, ro)) := fun h => by rw [hy]; exact checkD_num (by rw [← hy]; exact h)
  have HN0 : Hid (y = 0 → (numF ws.length ms.length).1 = 0) := fun h => by rw [← hy]; exact h
  clear hD hb hy hW hM hA hB hC hG
  obtain ⟨E, hE⟩ : ∃ E, E = checkD ws ms A B C := ⟨_, rfl⟩
  have HE : Hid (E = checkD ws ms A B C) := hE
  rw [← hE] at HN1 ⊢
  clear hE
  have hsz : ((w.alloc (.cells #[.slice aw ws.length cw, .slice am ms.length cm, .slice a A.length ca, .slice b B.length cb, .slice c C.length cc] 30)).alloc (.cells #[.int .i64 0, .int .i64 0, .int .i64 0] 68)).heap.size = w.heap.size + 1 + 1 := by simp
  have x0 := hD2.c0
  have x1 := hD2.c1
  have x2 := hD2.c2
  have x3 := hD2.c3
  have x4 := hD2.c4
  go_enter Tryd.func26, Tryd.ntmps26
  go_wp2_with fail
  obtain ⟨Y, hY⟩ : ∃ Y, Y = ((w.alloc (.cells #[.slice aw ws.length cw, .slice am ms.length cm, .slice a A.length ca, .slice b B.length cb, .slice c C.length cc] 30)).alloc (.cells #[.int .i64 0, .int .i64 0, .int .i64 0] 68)) := ⟨_, rfl⟩
  rw [← hY] at hb2 hD2 hR hsz ⊢
  clear hY x0 x1 x2 x3 x4
  obtain ⟨z, hz⟩ : ∃ z, z = w.heap.size := ⟨_, rfl⟩
  have HZ : Hid (z = w.heap.size) := hz
  rw [← hz] at hD2 hR hsz ⊢
  clear hz
  refine (hNum Y).mono ?_
  rintro e w1 ⟨rfl, hb1⟩
  clear hNum
  unfold f3V
  obtain ⟨yi, hyi⟩ : ∃ q : Int, q = (y : Nat) := ⟨_, rfl⟩
  obtain ⟨lii, hlii⟩ : ∃ q : Int, q = (li : Nat) := ⟨_, rfl⟩
  obtain ⟨roi, hroi⟩ : ∃ q : Int, q = (ro : Nat) := ⟨_, rfl⟩
  simp only []
  rw [← hyi, ← hlii, ← hroi]
  have HYI : Hid (yi = (y : Nat) ∧ lii = (li : Nat) ∧ roi = (ro : Nat)) := ⟨hyi, hlii, hroi⟩
  have hD1 := hD2.below hb1 (by omega)
  have hR1 := (hb1.block (z + 1) (by omega)).trans hR
  have hB1 := hb2.trans (hb1.mono hb2.size)
  have hs1 : z + 1 + 1 ≤ w1.heap.size := by have := hb1.size; omega
  have hbf := box_below w1 (.cells #[.int .i64 yi, .int .i64 lii, .int .i64 roi] 68)
  have hF := heap_alloc_new w1 (.cells #[.int .i64 yi, .int .i64 lii, .int .i64 roi] 68)
  have hD3 := hD1.below hbf (by omega)
  have hR3 := (hbf.block (z + 1) (by omega)).trans hR1
  have hB3 := hB1.trans (hbf.mono hB1.size)
  have hs3 : z + 1 + 1 ≤ (w1.alloc (.cells #[.int .i64 yi, .int .i64 lii, .int .i64 roi] 68)).heap.size := by simp; omega
  clear hD2 hR hb2 hb1 hsz hD1 hR1 hB1 hbf
  by_cases h0 : y = 0
  · obtain ⟨hm4, hnm⟩ := num_zero (HN0.out h0)
    have HCD : Hid (E = _) := HE.out.trans (checkD_zero (HN0.out h0))
    have HNM : Hid (ws.length = ms.length) := hnm
    have hw4 : ws.length ≤ 4096 := by omega
    obtain rfl : yi = 0 := by rw [hyi, h0]; rfl
    clear HN1 HN0 hnm hyi hlii hroi h0
    have f0 := cell_of_block hF 0
    have x2 := hD3.c2
    have x3 := hD3.c3
    have x4 := hD3.c4
    have e1 := fun j => unfrozen_of_block hF j
    have HNw := fun wx h1 h2 h3 h4 => new_any a b c ca cb cc A B C wx h1 h2 h3 h4
    obtain ⟨⟨ya, la, ra⟩, hya⟩ : ∃ q, q = checkA A B C := ⟨_, rfl⟩
    rw [← hya] at HNw
    have HYA : Hid ((ya, la, ra) = checkA A B C) := hya
    clear hya
    go_wp2_with fail
    obtain ⟨W3, hW3⟩ : ∃ W3, W3 = w1.alloc (.cells #[.int .i64 0, .int .i64 lii, .int .i64 roi] 68) := ⟨_, rfl⟩
    rw [← hW3] at hF hD3 hR3 hB3 hs3 x2 x3 x4 f0 e1 ⊢
    clear hW3
    clear x2 x3 x4 f0 e1 hF
    have hz3 : z + 1 + 1 ≤ W3.heap.size := by omega
    refine (HNw W3 (HA0.out.below hB3) (HB0.out.below hB3) (HC0.out.below hB3) (HG0.out.below hB3)).mono ?_
    rintro e w4 ⟨pt, rfl, hT, -, hb4⟩
    clear HNw
    have hD4 := hD3.below hb4 (by omega)
    have hR4 := (hb4.block (z + 1) (by omega)).trans hR3
    have hB4 := hB3.trans (hb4.mono hB3.size)
    have hs4 : z + 1 + 1 ≤ w4.heap.size := by have := hb4.size; omega
    unfold wrV
    obtain ⟨yai, hyai⟩ : ∃ q : Int, q = (ya : Nat) := ⟨_, rfl⟩
    obtain ⟨lai, hlai⟩ : ∃ q : Int, q = (la : Nat) := ⟨_, rfl⟩
    obtain ⟨rai, hrai⟩ : ∃ q : Int, q = (ra : Nat) := ⟨_, rfl⟩
    simp only []
    rw [← hyai, ← hlai, ← hrai]
    have HYAI : Hid (yai = (ya : Nat) ∧ lai = (la : Nat) ∧ rai = (ra : Nat)) := ⟨hyai, hlai, hrai⟩
    have hbg := box_below w4 (.cells #[.int .i64 yai, .int .i64 lai, .int .i64 rai] 101)
    have hF := heap_alloc_new w4 (.cells #[.int .i64 yai, .int .i64 lai, .int .i64 rai] 101)
    have hD5 := hD4.below hbg (by omega)
    have hR5 := (hbg.block (z + 1) (by omega)).trans hR4
    have hB5 := hB4.trans (hbg.mono hB4.size)
    have hs5 : z + 1 + 1 ≤ (w4.alloc (.cells #[.int .i64 yai, .int .i64 lai, .int .i64 rai] 101)).heap.size := by simp; omega
    clear hD3 hR3 hB3 hs3 hb4 hD4 hR4
    by_cases ha0 : ya = 0
    · obtain ⟨g, rfl, hTg⟩ := hT ha0
      obtain rfl : yai = 0 := by rw [hyai, ha0]; rfl
      have HT5 := hTg.below hbg
      have HY0 : Hid ((checkA A B C).1 = 0) := by rw [← HYA.out]; exact ha0
      have hF0 := cell_of_block hF 0
      have hF1 := cell_of_block hF 1
      have hF2 := cell_of_block hF 2
      have e1 := fun j => unfrozen_of_block hF j
      have x0 := hD5.c0
      clear hT hTg hyai hlai hrai ha0 HYA hbg
      have HWw := fun wx h => wrongWord_any aw cw ws wx (by omega) h
      obtain ⟨⟨yw, rw_⟩, hyw⟩ : ∃ q, q = firstBad (badW ws) ws.length := ⟨_, rfl⟩
      rw [← hyw] at HWw
      have HYW : Hid ((yw, rw_) = firstBad (badW ws) ws.length) := hyw
      clear hyw
      go_wp2_with fail
      obtain ⟨W5, hW5⟩ : ∃ W5, W5 = w4.alloc (.cells #[.int .i64 0, .int .i64 lai, .int .i64 rai] 101) := ⟨_, rfl⟩
      rw [← hW5] at hD5 hR5 hB5 hs5 HT5 hF hF0 hF1 hF2 e1 x0 ⊢
      clear hW5
      clear hF hF0 hF1 hF2 e1 x0
      refine (HWw W5 (HW0.out.below hB5)).mono ?_
      rintro e w6 ⟨rfl, hb6⟩
      clear HWw
      have hD6 := hD5.below hb6 (by omega)
      have hR6 := (hb6.block (z + 1) (by omega)).trans hR5
      have hB6 := hB5.trans (hb6.mono hB5.size)
      have hs6 : z + 1 + 1 ≤ w6.heap.size := by have := hb6.size; omega
      have hT6 := HT5.below hb6
      obtain ⟨ywi, hywi⟩ : ∃ q : Int, q = (yw : Nat) := ⟨_, rfl⟩
      obtain ⟨rwi, hrwi⟩ : ∃ q : Int, q = (rw_ : Nat) := ⟨_, rfl⟩
      simp only []
      rw [← hywi, ← hrwi]
      have HYWI : Hid (ywi = (yw : Nat) ∧ rwi = (rw_ : Nat)) := ⟨hywi, hrwi⟩
      clear hD5 hR5 hB5 HT5 hb6 hB4
      by_cases hw0 : yw = 0
      · obtain rfl : ywi = 0 := by rw [hywi, hw0]; rfl
        have hRgt : WRgt ws := firstBad_zero (by rw [← HYW.out]; exact hw0)
        have HW00 : Hid ((firstBad (badW ws) ws.length).1 = 0) := by rw [← HYW.out]; exact hw0
        clear hywi hrwi hw0 HYW
        have x0 := hD6.c0
        have x1 := hD6.c1
        have x2 := hD6.c2
        have x3 := hD6.c3
        have x4 := hD6.c4
        have hz6 : z < w6.heap.size := by omega
        have HCp : ∀ wx, Below w6.heap.size w6 wx → Calls Tryd.prog 44 #[.agg #[.slice aw ws.length cw, .slice am ms.length cm, .slice a A.length ca, .slice b B.length cb, .slice c C.length cc]] wx fun e w' => ∃ v, e = .returned v ∧ Below wx.heap.size wx w' ∧ ∃ a0 c0 a1 c1 a2 c2 a3 c3 a4 c4, v = .agg #[.slice a0 ws.length c0, .slice a1 ms.length c1, .slice a2 A.length c2, .slice a3 B.length c3, .slice a4 C.length c4] ∧ OwnD w' (z + 1 + 1) a0 c0 a1 c1 a2 c2 a3 c3 a4 c4 ws ms A B C := fun wx hbx => by
          have hB' := hB6.trans (hbx.mono hB6.size)
          have := (check_pass HY0.out).1.len (by omega)
          refine (copied_any aw am a b c cw cm ca cb cc ws ms A B C wx (by omega) (by omega) (by omega) (by omega) (by omega) (fun i x hx => (hRgt.size hx).2) (HW0.out.below hB') (HM0.out.below hB') (HA0.out.below hB').at' (HB0.out.below hB').at' (HC0.out.below hB').at').mono ?_
          rintro e w' ⟨a0, c0, a1, c1, a2, c2, a3, c3, a4, c4, rfl, h2, h3⟩
          exact ⟨_, rfl, h3, a0, c0, a1, c1, a2, c2, a3, c3, a4, c4, rfl, h2.low (by have := hbx.size; omega)⟩
        have HLg : ∀ wx, Below w6.heap.size w6 wx → Calls Tryd.prog 45 #[.slice aw ws.length cw] wx fun e w' => ∃ v, e = .returned v ∧ Below wx.heap.size wx w' ∧ v = .int .i64 (longM ws : Nat) := fun wx hbx => by
          refine (longest_any aw cw ws wx (by omega) (HW0.out.below (hB6.trans (hbx.mono hB6.size)))).mono ?_
          rintro e w' ⟨rfl, rfl⟩
          exact ⟨_, rfl, Below.refl _ _, rfl⟩
        have HDx : Hid (DBox w6 z _ _ _ _ _) := hD6
        have hTg := hT6.low hz3
        have HTg : Hid (OwnT w6 (z + 1 + 1) g A B C) := hTg
        clear hT6 hTg
        go_wp2_with fail
        clear x0 x1 x2 x3 x4
        refine wp_region_mono 10 [43, 44, 45, 46, 47, 48, 49, 50, 51, 9] [qR (.agg #[.slice aw ws.length cw, .slice am ms.length cm, .slice a A.length ca, .slice b B.length cb, .slice c C.length cc]),
          fun v wx => ∃ a0 c0 a1 c1 a2 c2 a3 c3 a4 c4, v = .agg #[.slice a0 ws.length c0, .slice a1 ms.length c1, .slice a2 A.length c2, .slice a3 B.length c3, .slice a4 C.length c4] ∧ OwnD wx (z + 1 + 1) a0 c0 a1 c1 a2 c2 a3 c3 a4 c4 ws ms A B C,
          qR (.pointer (some ⟨g, 0, none⟩)),
          fun v wx => ∃ gr, v = .map (some gr) ∧ z + 1 + 1 ≤ gr ∧ MapI wx 99 pairV gr 0 (fun _ => none),
          qR (.pointer (some ⟨z, 0, none⟩)), qR (.slice aw ws.length cw), qR (.int .i64 (longM ws : Nat)),
          fun v wx => ∃ a0 c0 a1 c1 a2 c2 a3 c3 a4 c4 gr, v = .agg #[.slice a0 ws.length c0, .slice a1 ms.length c1, .slice a2 A.length c2, .slice a3 B.length c3, .slice a4 C.length c4, .pointer (some ⟨g, 0, none⟩), .map (some gr), .int .i64 (longM ws : Nat)] ∧ OwnD wx (z + 1 + 1) a0 c0 a1 c1 a2 c2 a3 c3 a4 c4 ws ms A B C ∧ z + 1 + 1 ≤ gr ∧ MapI wx 99 pairV gr 0 (fun _ => none),
          fun v wx => ∃ gm, v = .pointer (some ⟨gm, 0, none⟩) ∧ MPre wx (z + 1 + 1) gm ws ms A B C,
          fun v wx => ∃ gm, v = .pointer (some ⟨gm, 0, none⟩) ∧ MPre wx (z + 1 + 1) gm ws ms A B C] (by kernel_rfl) (by kernel_rfl) rfl rfl ?stab ?steps ?fin
        case stab =>
          intro φ hφ
          simp only [List.mem_cons, List.not_mem_nil, or_false] at hφ
          rcases hφ with rfl | rfl | rfl | rfl | rfl | rfl | rfl | rfl | rfl | rfl
          · exact fun _ _ _ _ h => h
          · rintro v wx w' hb ⟨a0, c0, a1, c1, a2, c2, a3, c3, a4, c4, h1, h2⟩
            exact ⟨a0, c0, a1, c1, a2, c2, a3, c3, a4, c4, h1, h2.below hb⟩
          · exact fun _ _ _ _ h => h
          · rintro v wx w' hb ⟨gr, h1, h2, h3⟩
            exact ⟨gr, h1, h2, h3.below hb h3.lt⟩
          · exact fun _ _ _ _ h => h
          · exact fun _ _ _ _ h => h
          · exact fun _ _ _ _ h => h
          · rintro v wx w' hb ⟨a0, c0, a1, c1, a2, c2, a3, c3, a4, c4, gr, h1, h2, h3, h4⟩
            exact ⟨a0, c0, a1, c1, a2, c2, a3, c3, a4, c4, gr, h1, h2.below hb, h3, h4.below hb h4.lt⟩
          · rintro v wx w' hb ⟨gm, h1, h2⟩
            exact ⟨gm, h1, h2.below hb⟩
          · rintro v wx w' hb ⟨gm, h1, h2⟩
            exact ⟨gm, h1, h2.below hb⟩
        case steps =>
          have hBx : ∀ wx, Below w6.drew.heap.size w6.drew wx → Below w6.heap.size w6 wx := fun wx hb => ⟨hb.os, hb.tape, hb.output, hb.size, hb.block⟩
          have hnone : ∀ (i : Nat) (o : Oper), True := fun _ _ => trivial
          refine ⟨?_, ?_, ?_, ?_, ?_, ?_, ?_, ?_, ?_, ?_, trivial⟩
          · intro a' he wx hb hd
            have hDx := HDx.out.below (hBx wx hb) hz6
            have q0 := hDx.c0
            have q1 := hDx.c1
            have q2 := hDx.c2
            have q3 := hDx.c3
            have q4 := hDx.c4
            have e1 : a'.eval (.tmp 1) = .pointer (some ⟨z, 0, none⟩) := he.get rfl
            refine mStep_read rfl ?_ rfl
            simp only [execOp, e1]
            go_simp
          · intro a' he wx hb hd
            have e1 : a'.eval (.tmp 43) = _ := hd 0 rfl _ _ rfl rfl
            exact mStep_call rfl (by simp [execOp, resolve, e1]; rfl) (HCp wx (hBx wx hb))
          · intro a' he wx hb hd
            have e1 : a'.eval (.tmp 5) = .pointer (some ⟨g, 0, none⟩) := he.get rfl
            exact mStep_read rfl (by simp [execOp, e1]) rfl
          · intro a' he wx hb hd
            refine mStep_val rfl (by simp [execOp, run_makeMap]) (box_below wx _) ⟨_, rfl, ?_, MapI.made _ _ _⟩
            have := hb.size
            simp at this
            omega
          · intro a' he wx hb hd
            have e1 : a'.eval (.tmp 1) = .pointer (some ⟨z, 0, none⟩) := he.get rfl
            exact mStep_read rfl (by simp only [execOp, e1]; go_simp) rfl
          · intro a' he wx hb hd
            have hDx := HDx.out.below (hBx wx hb) hz6
            have q0 := hDx.c0
            have e1 : a'.eval (.tmp 47) = _ := hd 4 rfl _ _ rfl rfl
            refine mStep_read rfl ?_ rfl
            simp only [execOp, e1]
            go_simp
          · intro a' he wx hb hd
            have e1 : a'.eval (.tmp 48) = _ := hd 5 rfl _ _ rfl rfl
            exact mStep_call rfl (by simp [execOp, resolve, e1]; rfl) (HLg wx (hBx wx hb))
          · intro a' he wx hb hd
            obtain ⟨a0, c0, a1, c1, a2, c2, a3, c3, a4, c4, e1, h1⟩ := hd 1 rfl _ _ rfl rfl
            have e2 : a'.eval (.tmp 45) = _ := hd 2 rfl _ _ rfl rfl
            obtain ⟨gr, e3, h3, h4⟩ := hd 3 rfl _ _ rfl rfl
            have e4 : a'.eval (.tmp 49) = _ := hd 6 rfl _ _ rfl rfl
            refine mStep_read rfl ?_ ⟨a0, c0, a1, c1, a2, c2, a3, c3, a4, c4, gr, rfl, h1, h3, h4⟩
            simp [execOp, e1, e2, e3, e4]
            go_simp
          · intro a' he wx hb hd
            obtain ⟨a0, c0, a1, c1, a2, c2, a3, c3, a4, c4, gr, e1, h1, h3, h4⟩ := hd 7 rfl _ _ rfl rfl
            have hbn := box_below wx (.cells #[.slice a0 ws.length c0, .slice a1 ms.length c1, .slice a2 A.length c2, .slice a3 B.length c3, .slice a4 C.length c4, .pointer (some ⟨g, 0, none⟩), .map (some gr), .int .i64 (longM ws : Nat)] 96)
            have hzx := (hBx wx hb).size
            refine mStep_val rfl ?_ hbn ⟨wx.heap.size, rfl, a0, c0, a1, c1, a2, c2, a3, c3, a4, c4, g, gr, by omega, h3, heap_alloc_new _ _, h1.below hbn, (HTg.out.below (hBx wx hb)).below hbn, h4.below hbn h4.lt⟩
            simp only [execOp, e1]
            go_simp
          · intro a' he wx hb hd
            obtain ⟨gm, e1, h1⟩ := hd 8 rfl _ _ rfl rfl
            exact mStep_read rfl (by simp [execOp, e1]) ⟨gm, rfl, h1⟩
        case fin =>
          rintro wx hb u43 rfl u44 - u45 rfl u46 - u47 rfl u48 rfl u49 rfl u50 - u51 - u9 ⟨gm, rfl, hPre⟩
          obtain ⟨a0, c0, a1, c1, a2, c2, a3, c3, a4, c4, gt, gr, hgm, hgr, hMb, hOD, hOT, hMp⟩ := hPre
          have hBw : Below w6.heap.size w6 wx := ⟨hb.os, hb.tape, hb.output, hb.size, hb.block⟩
          have hR7 := (hBw.block (z + 1) (by omega)).trans hR6
          have hB7 := hB6.trans (hBw.mono hB6.size)
          have hsx := hBw.size
          have hRk := rankMerges_any gm gr c0 c1 a0 a1 ws ms wx hw4 hm4 hwf (fun i x hx => (hRgt.size hx).2) hRgt (cell_of_block hMb 0) (cell_of_block hMb 1) (cell_of_block hMb 6) hOD.words.row.sp hOD.merges.row.sp hMp
          have HMb : Hid (wx.heap[gm]? = _) := hMb
          have HOD : Hid (OwnD wx _ a0 c0 a1 c1 a2 c2 a3 c3 a4 c4 ws ms A B C) := hOD
          have HOT : Hid (OwnT wx _ gt A B C) := hOT
          have HMp : Hid (MapI wx 99 pairV gr 0 (fun _ => none)) := hMp
          obtain ⟨⟨yr, rr⟩, hyr⟩ : ∃ q, q = firstBad (badM ws ms) ms.length := ⟨_, rfl⟩
          rw [← hyr] at hRk
          have HYR : Hid ((yr, rr) = firstBad (badM ws ms) ms.length) := hyr
          clear hyr hb hMb hOD hOT hMp hR6 hB6 hD6
          simp only [finV, Act.put, List.setIfInBounds_toArray, List.set_cons_succ, List.set_cons_zero, List.drop_succ_cons, List.drop_zero]
          go_wp2_with fail
          refine hRk.mono ?_
          rintro e w8 ⟨rfl, hBut, hMap⟩
          have hz1 : z + 1 < wx.heap.size := by omega
          have hne1 : z + 1 ≠ gr := HMp.out.ne hR7
          have hR8 := (hBut.2.2.2.2 (z + 1) hz1 hne1).trans hR7
          have hB8 : Below w.heap.size w w8 := hB7.trans (hBut.below (by rw [← HZ.out]; omega) (by rw [← HZ.out]; omega))
          have HCK : Hid (CK wx w8) := hBut.ck HMp.out
          have HMap : Hid (yr = 0 → MapI w8 99 pairV gr ms.length (rankF ms)) := hMap
          obtain ⟨yri, hyri⟩ : ∃ q : Int, q = (yr : Nat) := ⟨_, rfl⟩
          obtain ⟨rri, hrri⟩ : ∃ q : Int, q = (rr : Nat) := ⟨_, rfl⟩
          simp only []
          rw [← hyri, ← hrri]
          have f0 := fun j => unfrozen_of_block hR8 j
          have z0 := cell_of_block hR8 (i := 0)
          have z1 := cell_of_block hR8 (i := 1)
          have z2 := cell_of_block hR8 (i := 2)
          clear hRk hBut hMap hR7 hB7
          by_cases hr0 : yr = 0
          · obtain rfl : yri = 0 := by rw [hyri, hr0]; rfl
            have HE2 : Hid (E = (0, 0, 0)) := by rw [HCD.out, if_neg (by simpa using HY0.out), if_neg (by simpa using HW00.out), ← HYR.out]; exact if_neg (by simpa using hr0)
            have HM8 : Hid (ModelAt w8 (z + 1 + 1) gm ws ms A B C) := ⟨a0, c0, a1, c1, a2, c2, a3, c3, a4, c4, gt, gr, hgm, hgr, HCK.out _ _ _ _ HMb.out, HOD.out.ck HCK.out, HOT.out.ck HCK.out, HMap.out hr0⟩
            clear hyri hrri hr0 HYR HMap HE
            go_wp2_with fail
            have hfin := wr_set hR8 (u0 := .int .i64 0) (u1 := .int .i64 0) (u2 := .int .i64 0)
            have hBf := wr_below hB8 (g := z + 1) (u0 := .int .i64 0) (u1 := .int .i64 0) (u2 := .int .i64 0) (by rw [HZ.out]; omega)
            have hMf := ((HM8.out.away (b := z + 1) (o := 0) (by omega) (.int .i64 0)).away (b := z + 1) (o := 1) (by omega) (.int .i64 0)).away (b := z + 1) (o := 2) (by omega) (.int .i64 0)
            obtain ⟨Wf, hWf⟩ : ∃ Wf, Wf = (((w8.setCell ⟨z + 1, 0, none⟩ (.int .i64 0)).setCell ⟨z + 1, 1, none⟩ (.int .i64 0)).setCell ⟨z + 1, 2, none⟩ (.int .i64 0)) := ⟨_, rfl⟩
            rw [← hWf] at hfin hBf hMf ⊢
            have y0 := cell_of_block hfin (i := 0)
            have y1 := cell_of_block hfin (i := 1)
            have y2 := cell_of_block hfin (i := 2)
            exact bodyPost_ret (v := .tuple #[.pointer (some ⟨gm, 0, none⟩), .agg #[.int .i64 0, .int .i64 0, .int .i64 0]]) (by simp [results, Tryd.results26, go_sem, y0, y1, y2]) rfl ⟨some ⟨gm, 0, none⟩, by rw [HE2.out]; rfl, fun _ => ⟨gm, rfl, hMf.low (by rw [HZ.out]; omega)⟩, fun e => absurd (by rw [HE2.out]) e, hBf⟩
          · have hne : (yri == 0) = false := by rw [hyri]; simp; omega
            have HE2 : Hid (E = (yr, 5, rr)) := by rw [HCD.out, if_neg (by simpa using HY0.out), if_neg (by simpa using HW00.out), ← HYR.out]; exact if_pos hr0
            have HYRI : Hid (yri = (yr : Nat) ∧ rri = (rr : Nat)) := ⟨hyri, hrri⟩
            clear hyri hrri HYR HMap HE
            go_wp2_with fail
            have hfin := wr_set hR8 (u0 := .int .i64 yri) (u1 := .int .i64 5) (u2 := .int .i64 rri)
            have hBf := wr_below hB8 (g := z + 1) (u0 := .int .i64 yri) (u1 := .int .i64 5) (u2 := .int .i64 rri) (by rw [HZ.out]; omega)
            obtain ⟨Wf, hWf⟩ : ∃ Wf, Wf = (((w8.setCell ⟨z + 1, 0, none⟩ (.int .i64 yri)).setCell ⟨z + 1, 1, none⟩ (.int .i64 5)).setCell ⟨z + 1, 2, none⟩ (.int .i64 rri)) := ⟨_, rfl⟩
            rw [← hWf] at hfin hBf ⊢
            have y0 := cell_of_block hfin (i := 0)
            have y1 := cell_of_block hfin (i := 1)
            have y2 := cell_of_block hfin (i := 2)
            exact bodyPost_ret (v := .tuple #[.pointer none, .agg #[.int .i64 yri, .int .i64 5, .int .i64 rri]]) (by simp [results, Tryd.results26, go_sem, y0, y1, y2]) rfl ⟨none, by rw [HE2.out, HYRI.out.1, HYRI.out.2]; rfl, fun e => absurd (by rw [HE2.out] at e; exact e) hr0, fun _ => rfl, hBf⟩
      · have hne : (ywi == 0) = false := by rw [hywi]; simp; omega
        have HE2 : Hid (E = (yw, 4, rw_)) := by rw [HCD.out, if_neg (by simpa using HY0.out), ← HYW.out]; exact if_pos hw0
        have f0 := fun j => unfrozen_of_block hR6 j
        have z0 := cell_of_block hR6 (i := 0)
        have z1 := cell_of_block hR6 (i := 1)
        have z2 := cell_of_block hR6 (i := 2)
        clear hywi hrwi
        go_wp2_with fail
        have hfin := wr_set hR6 (u0 := .int .i64 ywi) (u1 := .int .i64 4) (u2 := .int .i64 rwi)
        have hBf := wr_below hB6 (g := z + 1) (u0 := .int .i64 ywi) (u1 := .int .i64 4) (u2 := .int .i64 rwi) (by rw [HZ.out]; omega)
        obtain ⟨Wf, hWf⟩ : ∃ Wf, Wf = (((w6.setCell ⟨z + 1, 0, none⟩ (.int .i64 ywi)).setCell ⟨z + 1, 1, none⟩ (.int .i64 4)).setCell ⟨z + 1, 2, none⟩ (.int .i64 rwi)) := ⟨_, rfl⟩
        rw [← hWf] at hfin hBf ⊢
        have y0 := cell_of_block hfin (i := 0)
        have y1 := cell_of_block hfin (i := 1)
        have y2 := cell_of_block hfin (i := 2)
        exact bodyPost_ret (v := .tuple #[.pointer none, .agg #[.int .i64 ywi, .int .i64 4, .int .i64 rwi]]) (by simp [results, Tryd.results26, go_sem, y0, y1, y2]) rfl ⟨none, by rw [HE2.out, HYWI.out.1, HYWI.out.2]; rfl, fun e => absurd (by rw [HE2.out] at e; exact e) hw0, fun _ => rfl, hBf⟩
    · have hne : (yai == 0) = false := by rw [hyai]; simp; omega
      have HE2 : Hid (E = (ya, la, ra)) := by rw [HCD.out, ← HYA.out]; exact if_pos ha0
      have x0 := cell_of_block hF (i := 0)
      have x1 := cell_of_block hF (i := 1)
      have x2 := cell_of_block hF (i := 2)
      have f0 := fun j => unfrozen_of_block hR5 j
      clear hyai hlai hrai hT hbg
      go_wp2_with fail
      obtain ⟨W5, hW5⟩ : ∃ W5, W5 = w4.alloc (.cells #[.int .i64 yai, .int .i64 lai, .int .i64 rai] 101) := ⟨_, rfl⟩
      rw [← hW5] at hF hD5 hR5 hB5 hs5 x0 x1 x2 f0 ⊢
      clear hW5
      refine wp_region_quiet_tail (C := fun w' => ∃ n, w' = W5.drewN n) 2 (by kernel_rfl) (by kernel_rfl) ⟨1, rfl⟩ ?_
      simp only [List.take_succ_cons, List.take_zero, List.drop_succ_cons, List.drop_zero]
      repeat (go_big_quiet_step (fail))
      refine wpQuiet_nil ?_
      intro _ hw'
      obtain ⟨nq, hw''⟩ := hw'
      subst hw''
      have hbd := below_drewN (Below.refl W5.heap.size W5) nq
      have hR6 := (hbd.block (z + 1) (by omega)).trans hR5
      have hB6 := hB5.trans (hbd.mono hB5.size)
      have f0 := fun j => unfrozen_of_block hR6 j
      have z0 := cell_of_block hR6 (i := 0)
      have z1 := cell_of_block hR6 (i := 1)
      have z2 := cell_of_block hR6 (i := 2)
      clear hbd x0 x1 x2 hF hD5 hR5 hB5
      go_wp2_with fail
      have hfin := wr_set hR6 (u0 := .int .i64 yai) (u1 := .int .i64 lai) (u2 := .int .i64 rai)
      have hBf := wr_below hB6 (g := z + 1) (u0 := .int .i64 yai) (u1 := .int .i64 lai) (u2 := .int .i64 rai) (by rw [HZ.out]; omega)
      obtain ⟨Wf, hWf⟩ : ∃ Wf, Wf = ((((W5.drewN nq).setCell ⟨z + 1, 0, none⟩ (.int .i64 yai)).setCell ⟨z + 1, 1, none⟩ (.int .i64 lai)).setCell ⟨z + 1, 2, none⟩ (.int .i64 rai)) := ⟨_, rfl⟩
      rw [← hWf] at hfin hBf ⊢
      have y0 := cell_of_block hfin (i := 0)
      have y1 := cell_of_block hfin (i := 1)
      have y2 := cell_of_block hfin (i := 2)
      exact bodyPost_ret (v := .tuple #[.pointer none, .agg #[.int .i64 yai, .int .i64 lai, .int .i64 rai]]) (by simp [results, Tryd.results26, go_sem, y0, y1, y2]) rfl ⟨none, by rw [HE2.out, HYAI.out.1, HYAI.out.2.1, HYAI.out.2.2]; rfl, fun e => absurd (by rw [HE2.out] at e; exact e) ha0, fun _ => rfl, hBf⟩
  · have hne : (yi == 0) = false := by rw [hyi]; simp; omega
    have HE2 : Hid (E = (y, li, ro)) := HN1.out h0
    have x0 := cell_of_block hF (i := 0)
    have x1 := cell_of_block hF (i := 1)
    have x2 := cell_of_block hF (i := 2)
    have f0 := fun j => unfrozen_of_block hR3 j
    clear hyi hlii hroi
    go_wp2_with fail
    obtain ⟨W3, hW3⟩ : ∃ W3, W3 = w1.alloc (.cells #[.int .i64 yi, .int .i64 lii, .int .i64 roi] 68) := ⟨_, rfl⟩
    rw [← hW3] at hF hD3 hR3 hB3 hs3 x0 x1 x2 f0 ⊢
    clear hW3
    refine wp_region_quiet_tail (C := fun w' => ∃ n, w' = W3.drewN n) 2 (by kernel_rfl) (by kernel_rfl) ⟨1, rfl⟩ ?_
    simp only [List.take_succ_cons, List.take_zero, List.drop_succ_cons, List.drop_zero]
    repeat (go_big_quiet_step (fail))
    refine wpQuiet_nil ?_
    intro _ hw'
    obtain ⟨nq, hw''⟩ := hw'
    subst hw''
    have hbd := below_drewN (Below.refl W3.heap.size W3) nq
    have hR4 := (hbd.block (z + 1) (by omega)).trans hR3
    have hB4 := hB3.trans (hbd.mono hB3.size)
    have f0 := fun j => unfrozen_of_block hR4 j
    have z0 := cell_of_block hR4 (i := 0)
    have z1 := cell_of_block hR4 (i := 1)
    have z2 := cell_of_block hR4 (i := 2)
    clear hbd x0 x1 x2 hF hD3 hR3 hB3
    go_wp2_with fail
    have hfin := wr_set hR4 (u0 := .int .i64 yi) (u1 := .int .i64 lii) (u2 := .int .i64 roi)
    have hBf := wr_below hB4 (g := z + 1) (u0 := .int .i64 yi) (u1 := .int .i64 lii) (u2 := .int .i64 roi) (by rw [HZ.out]; omega)
    obtain ⟨Wf, hWf⟩ : ∃ Wf, Wf = ((((W3.drewN nq).setCell ⟨z + 1, 0, none⟩ (.int .i64 yi)).setCell ⟨z + 1, 1, none⟩ (.int .i64 lii)).setCell ⟨z + 1, 2, none⟩ (.int .i64 roi)) := ⟨_, rfl⟩
    rw [← hWf] at hfin hBf ⊢
    have y0 := cell_of_block hfin (i := 0)
    have y1 := cell_of_block hfin (i := 1)
    have y2 := cell_of_block hfin (i := 2)
    exact bodyPost_ret (v := .tuple #[.pointer none, .agg #[.int .i64 yi, .int .i64 lii, .int .i64 roi]]) (by simp [results, Tryd.results26, go_sem, y0, y1, y2]) rfl ⟨none, by rw [HE2.out, HYI.out.1, HYI.out.2.1, HYI.out.2.2]; rfl, fun e => absurd (by rw [HE2.out] at e; exact e) h0, fun _ => rfl, hBf⟩
end Go.Proofs.YtjbdhakogbolkaaDoor
end
