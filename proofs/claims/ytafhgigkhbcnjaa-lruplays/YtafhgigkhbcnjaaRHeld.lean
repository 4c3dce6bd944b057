/- A region that draws its order: its head (loads among calls that keep what the loads read) in whatever order, S holding all the while; then its tail, one operation behind the other, of which nothing is asked for S. -/
import Derived.Test.YtafhgigkhbcnjaaRMono2
import Derived.OrdersHeld
namespace Go.Proofs.Ytafhgigkhbcnjaa
open Go.RowKit
section
variable {P : Program} {ops : Array Oper} {md : Region.Mode} {Q : Exit → Act → World → Prop} {S : World → Prop} {n : Nat} {L : Array Bool → Act → World → Prop}
def HL (P : Program) (md : Region.Mode) (ops : Array Oper) (Q : Exit → Act → World → Prop) (S : World → Prop) (n : Nat) (L : Array Bool → Act → World → Prop) : Nat → Array Bool → Act → World → Prop
  | 0, listed, a, w => L listed a w
  | f + 1, listed, a, w =>
    Region.ready md ops listed ≠ [] ∧ ∀ i ∈ Region.ready md ops listed, i < n ∧ wpOp P ops Q i (fun a' w' => S w' ∧ HL P md ops Q S n L f (listed.setIfInBounds i true) a' w') a w
theorem of_HL {g : Nat} (hL : ∀ listed a w, L listed a w → wpAny P md ops Q g listed a w) : ∀ (f : Nat) (listed : Array Bool) (a : Act) (w : World), HL P md ops Q S n L f listed a w → wpAny P md ops Q (f + g) listed a w
  | 0, listed, a, w, h => by rw [Nat.zero_add]; exact hL _ _ _ h
  | f + 1, listed, a, w, h => by
    rw [show f + 1 + g = (f + g) + 1 by omega]
    exact ⟨fun h0 => absurd h0 h.1, fun i hi => wpOp_mono (fun a' w' h' => of_HL hL f _ a' w' h'.2) (h.2 i hi).2⟩
/-- No operation of the tail has come up; what one that has come up waits for has come up. -/
structure TailNo (md : Region.Mode) (ops : Array Oper) (n : Nat) (listed : Array Bool) : Prop where
  no : ∀ t, n ≤ t → t < ops.size → listed.getD t true = false
  closed : ∀ (i : Nat) (o : Oper), listed.getD i false = true → ops[i]? = some o → ∀ e ∈ o.after, Region.binds md e = true → listed.getD e.on false = true
theorem head_all (ht : tailB2 md ops n n = true) {listed : Array Bool} (hv : TailNo md ops n listed) {j : Nat} (hj : j ∈ Region.ready md ops listed) (hnj : n ≤ j) : ∀ d i, i < n → n - i ≤ d → listed.getD i false = true := by
  obtain ⟨hun, o, ho, hdep⟩ := mem_ready.1 hj
  have hjsz := (Array.getElem?_eq_some_iff.1 ho).1
  have h1 := List.all_eq_true.1 ht j (List.mem_range.2 hjsz)
  simp only [Bool.or_eq_true, decide_eq_true_eq] at h1
  intro d
  induction d with
  | zero => intro i hi hd; omega
  | succ d ih =>
    intro i hi hd
    rcases h1 with (h1 | h1) | h1
    · omega
    · have h2 := List.all_eq_true.1 h1 i (List.mem_range.2 hi)
      simp only [Bool.or_eq_true] at h2
      rcases h2 with h2 | h2
      · obtain ⟨oj, hoj, e, he, hb, hon⟩ := Region.waitsFor_spec h2
        obtain rfl : oj = o := Option.some.inj (hoj.symm.trans ho)
        have := hdep e he hb
        rwa [hon] at this
      · obtain ⟨k, hk, hk2⟩ := List.any_eq_true.1 h2
        simp only [Bool.and_eq_true, decide_eq_true_eq] at hk2
        have hkn := List.mem_range.1 hk
        obtain ⟨ok, hok, e, he, hb, hon⟩ := Region.waitsFor_spec hk2.2
        have := hv.closed k ok (ih k hkn (by omega)) hok e he hb
        rwa [hon] at this
    · obtain ⟨k, hk, hk2⟩ := List.any_eq_true.1 h1
      simp only [Bool.and_eq_true, decide_eq_true_eq] at hk2
      obtain ⟨oj, hoj, e, he, hb, hon⟩ := Region.waitsFor_spec hk2.2
      obtain rfl : oj = o := Option.some.inj (hoj.symm.trans ho)
      have := hdep e he hb
      have hkl := List.mem_range.1 hk
      rw [hon, getD_both (hv.no k hk2.1 (by omega))] at this
      cases this
theorem head_ready (ht : tailB2 md ops n n = true) {listed : Array Bool} (hv : TailNo md ops n listed) {i j : Nat} (hi : i < n) (hu : listed.getD i false = false) (hj : j ∈ Region.ready md ops listed) : j < n := by
  rcases Nat.lt_or_ge j n with h | h
  · exact h
  · have := head_all ht hv hj h n i hi (by omega)
    rw [hu] at this; cases this
theorem TailNo.set {listed : Array Bool} (h : TailNo md ops n listed) {i : Nat} (hi : i < n) (hr : i ∈ Region.ready md ops listed) : TailNo md ops n (listed.setIfInBounds i true) := by
  refine ⟨fun t h1 h2 => by rw [getD_set_ne true (by omega)]; exact h.no t h1 h2, fun k o hk ho e he hb => ?_⟩
  obtain ⟨hun, oi, hoi, hdep⟩ := mem_ready.1 hr
  by_cases hki : k = i
  · subst hki
    obtain rfl : oi = o := Option.some.inj (hoi.symm.trans ho)
    exact getD_set_true (hdep e he hb)
  · rw [getD_set_ne false (fun e => hki e.symm)] at hk
    exact getD_set_true (h.closed k o hk ho e he hb)
theorem HL_first {i : Nat} {oi : Oper} {v : Value} (hi : ops[i]? = some oi) (hsel : ∀ (j : Nat) (o : Oper) cs b, ops[j]? = some o → o.op ≠ .select cs b)
    (hQ : ∀ c a w, Q (.panic c) (a.put oi.dst v) w → Q (.panic c) a w) (ht : tailB2 md ops n n = true) (hin : i < n) (hdone : ∀ listed a w, L listed a w → ∀ j ∈ Region.ready md ops listed, n ≤ j) :
    ∀ (f : Nat) (listed : Array Bool) (a : Act) (w : World), TailNo md ops n listed →
      (∀ j oj, ops[j]? = some oj → j ≠ i → listed.getD j true = false → (∀ e ∈ oj.after, Region.binds md e = true → e.on ≠ i) → oi.apart ops oj = true) →
      i ∈ Region.ready md ops listed → YieldsIf P ops S oi v a → S w →
      HL P md ops Q S n L f (listed.setIfInBounds i true) (a.put oi.dst v) w → HL P md ops Q S n L (f + 1) listed a w := by
  intro f
  induction f with
  | zero =>
    intro listed a w hv _ hr hy hS H
    refine ⟨fun h => (by rw [h] at hr; cases hr), fun j hj => ?_⟩
    have hjn := head_ready ht hv hin (getD_both (mem_ready.1 hr).1) hj
    refine ⟨hjn, ?_⟩
    by_cases hji : j = i
    · subst hji; exact hy.wpOp hi hS ⟨hS, H⟩
    · have := hdone _ _ _ H j (ready_mono hj hji)
      omega
  | succ f ih =>
    intro listed a w hv hfree hr hy hS H
    refine ⟨fun h => (by rw [h] at hr; cases hr), fun j hj => ?_⟩
    have hjn := head_ready ht hv hin (getD_both (mem_ready.1 hr).1) hj
    refine ⟨hjn, ?_⟩
    by_cases hji : j = i
    · subst hji; exact hy.wpOp hi hS ⟨hS, H⟩
    · have h1 := (H.2 j (ready_mono hj hji)).2
      obtain ⟨hjun, oj, hoj, hall⟩ := mem_ready.1 hj
      have hnot : ∀ e ∈ oj.after, Region.binds md e = true → e.on ≠ i := fun e he hb heq => by
        have h1 := hall e he hb
        have h0 := (mem_ready.1 hr).1
        rw [heq] at h1
        rw [getD_both h0] at h1
        cases h1
      have h2 := wpOp_putIf hoj (hfree j oj hoj hji hjun hnot) (fun cs b => hsel i oi cs b hi) (fun cs b => hsel j oj cs b hoj) hQ hy h1
      have hfree' : ∀ k ok, ops[k]? = some ok → k ≠ i → (listed.setIfInBounds j true).getD k true = false →
          (∀ e ∈ ok.after, Region.binds md e = true → e.on ≠ i) → oi.apart ops ok = true := fun k ok hk hki hun hno => by
        refine hfree k ok hk hki ?_ hno
        by_cases hjk : j = k
        · subst hjk; exact hjun
        · rw [getD_set_ne true hjk] at hun; exact hun
      refine wpOp_mono (fun a' w' h3 => ⟨h3.2.1, ih (listed.setIfInBounds j true) a' w' (hv.set hjn hj) hfree' (ready_mono hr (Ne.symm hji)) h3.1 h3.2.1 ?_⟩) h2
      rw [Array.setIfInBounds_comm _ _ hji]
      exact h3.2.2
/-- What holds behind the head: the tail is to be walked. -/
def TailL (P : Program) (Q : Exit → Act → World → Prop) (n : Nat) (l : List Oper) (listed : Array Bool) (a : Act) (w : World) : Prop :=
  listed = Array.replicate n true ++ Array.replicate (l.length - n) false ∧ wpList P l.toArray Q (l.drop n) a w
def heldB (md : Region.Mode) (l : List Oper) (n : Nat) : Bool :=
  decide (n ≤ l.length) && tailB2 md l.toArray n n && Region.noSelect l.toArray && Region.seqB md l.toArray (l.length - n) n (Array.replicate n true ++ Array.replicate (l.length - n) false)
theorem tailL_done {l : List Oper} {listed : Array Bool} {a : Act} {w : World} (h : TailL P Q n l listed a w) : ∀ j ∈ Region.ready md l.toArray listed, n ≤ j := by
  intro j hj
  obtain ⟨hun, o, ho, _⟩ := mem_ready.1 hj
  rcases Nat.lt_or_ge j n with h1 | h1
  · rw [h.1] at hun
    have hjs : j < (Array.replicate n true ++ Array.replicate (l.length - n) false).size := by simp; omega
    rw [Array.getD_eq_getD_getElem?, Array.getElem?_eq_getElem hjs, Array.getElem_append_left (by simpa using h1)] at hun
    simp at hun
  · exact h1
def tailNoB (md : Region.Mode) (l : List Oper) (n : Nat) (listed : Array Bool) : Bool :=
  ((List.range l.length).all fun t => decide (t < n) || !listed.getD t true) &&
  ((List.range l.length).all fun i => !listed.getD i false || match l[i]? with | some o => o.after.toList.all fun e => !Region.binds md e || listed.getD e.on false | none => true)
theorem tailNo_of {l : List Oper} {listed : Array Bool} (h : tailNoB md l n listed = true) : TailNo md l.toArray n listed := by
  unfold tailNoB at h
  rw [Bool.and_eq_true] at h
  refine ⟨fun t h1 h2 => ?_, fun i o hi ho e he hb => ?_⟩
  · have := List.all_eq_true.1 h.1 t (List.mem_range.2 (by simpa using h2))
    simp only [Bool.or_eq_true, decide_eq_true_eq, Bool.not_eq_true'] at this
    rcases this with h3 | h3
    · omega
    · exact h3
  · have ho' : l[i]? = some o := by simpa using ho
    have := List.all_eq_true.1 h.2 i (List.mem_range.2 (List.getElem?_eq_some_iff.1 ho').1)
    rw [ho', hi] at this
    simp only [Bool.not_true, Bool.false_or] at this
    have := List.all_eq_true.1 this e (by simpa using he)
    rw [hb] at this
    simpa using this
/-- Taken first. -/
theorem HL_take {l : List Oper} {i : Nat} {oi : Oper} (v : Value) {f : Nat} {listed : Array Bool} {a : Act} {w : World} (hB : heldB md l n = true) (hi : l.toArray[i]? = some oi) (hin : i < n) (htn : tailNoB md l n listed = true)
    (hf : Region.free md l.toArray listed i = true) (hr : (Region.ready md l.toArray listed).contains i = true)
    (hQ : ∀ c (a : Act) w, Q (.panic c) (a.put oi.dst v) w → Q (.panic c) a w) (hy : YieldsIf P l.toArray S oi v a) (hS : S w)
    (h : HL P md l.toArray Q S n (TailL P Q n l) f (listed.setIfInBounds i true) (a.put oi.dst v) w) : HL P md l.toArray Q S n (TailL P Q n l) (f + 1) listed a w := by
  unfold heldB at hB
  simp only [Bool.and_eq_true, decide_eq_true_eq] at hB
  exact HL_first hi (Region.noSelect_spec hB.1.2) hQ hB.1.1.2 hin (fun _ _ _ h => tailL_done h) f listed a w (tailNo_of htn) (Region.free_spec hi hf) (by simpa using hr) hy hS h
theorem HL_one {L : Array Bool → Act → World → Prop} {i : Nat} {o : Oper} {f : Nat} {listed : Array Bool} {a : Act} {w : World} (hi : ops[i]? = some o) (hin : i < n) (hr : Region.ready md ops listed = [i]) (hg : o.guard = none)
    (h : o.wp P a w (fun a' w' => S w' ∧ HL P md ops Q S n L f (listed.setIfInBounds i true) a' w') Q) : HL P md ops Q S n L (f + 1) listed a w := by
  refine ⟨by rw [hr]; exact List.cons_ne_nil _ _, fun k hk => ?_⟩
  rw [hr] at hk
  obtain rfl : k = i := by simpa using hk
  refine ⟨hin, ?_⟩
  unfold wpOp
  simp only [hi, Region.wanted, hg, if_true]
  exact .inl h
theorem wp_value {o : Oper} {a : Act} {w w' : World} {v : Value} {K : Act → World → Prop} (hrun : (execOp a.eval o).run P w = .ok (.value v) w') (h : K (a.put o.dst v) w') : o.wp P a w K Q := by
  unfold Oper.wp
  rw [hrun]
  exact h
theorem wp_enter {o : Oper} {a : Act} {w : World} {f : FuncId} {args : Array Value} {K : Act → World → Prop} (hrun : (execOp a.eval o).run P w = .ok (.enter f args) w) (h : Calls P f args w fun e w' => ∃ v, e = .returned v ∧ K (a.put o.dst v) w') : o.wp P a w K Q := by
  unfold Oper.wp
  rw [hrun]
  refine h.mono ?_
  rintro e w' ⟨v, rfl, hK⟩
  exact hK
theorem wp_append {o : Oper} {a : Act} {w : World} {K : Act → World → Prop} (s x : Operand) (t tx : TypeId) (hop : o.op = Op.call { callee := Callee.builtin Builtin.append, args := #[s, x], argTypes := #[t, tx] }) (v y : Value) (hs : a.eval s = v) (hx : a.eval x = y) (R : Value → World → Prop)
    (hr : ∃ v' w', (Builtin.append_ #[t, tx] o.type #[v, y]).run P w = .ok v' w' ∧ R v' w') (hK : ∀ v' w', R v' w' → K (a.put o.dst v') w') : o.wp P a w K Q := by
  obtain ⟨v', w', hrun, hR⟩ := hr
  unfold Oper.wp
  simp [execOp, hop, resolve, invoke, builtin, hs, hx, hrun, Result.andThen]
  exact hK v' w' hR
/-- THE LAW. -/
theorem wp_region_heldtail {id : Nat} {a : Act} {w : World} {l : List Oper} (n : Nat) (S : World → Prop) (hm : P.follows .mixedOrders = true) (hB : heldB .any l n = true)
    (h : HL P .any l.toArray Q S n (TailL P Q n l) n (Array.replicate l.length false) a w.drew) : (Code.region id l.toArray true).wp P Q a w := by
  have hB' := hB
  unfold heldB at hB'
  simp only [Bool.and_eq_true, decide_eq_true_eq] at hB'
  refine wp_region_any hm ?_
  have h1 := of_HL (g := l.length - n) (fun listed a w hl => by
    obtain ⟨rfl, h2⟩ := hl
    have := wpAny_of_seq (P := P) (md := .any) (ops := l.toArray) (Q' := Q) (l.drop n) n (Array.replicate n true ++ Array.replicate (l.length - n) false) a w (fun j => by simp) (by rw [List.length_drop]; exact hB'.2) h2
    rwa [List.length_drop] at this) n _ a w.drew h
  rw [show n + (l.length - n) = l.toArray.size by simp; omega] at h1
  simpa using h1
end
end Go.Proofs.Ytafhgigkhbcnjaa
