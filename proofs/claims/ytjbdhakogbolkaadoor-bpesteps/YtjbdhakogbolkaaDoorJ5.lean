import Derived.StillTail
import Derived.Lib.QuietBelow
import Derived.Lib.QuietBelowIn
import Derived.Sort.QuietTacIn
import Derived.OwnWalkIn
import Derived.BigQuiet
import Derived.Sort.BigQuietIn
import Derived.Test.YtjbdhakogbolkaaDoorJ4
section
/- A region that draws its order, whose first operations leave the world within a class and whose last ones come one behind the other: walked once, in the order of the text; inside a fence and in a round, too. -/
namespace Go.Proofs.YtjbdhakogbolkaaDoor
open Go.RowKit Go.Sort
section
variable {P : Program} {ops : Array Oper} {md : Region.Mode} {C : World → Prop}
def wpAnyLQ (P : Program) (md : Region.Mode) (ops : Array Oper) (C : World → Prop) (n : Nat) (L : Array Bool → Act → Prop) : Nat → Array Bool → Act → Prop
  | 0, listed, a => L listed a
  | f + 1, listed, a =>
    Region.ready md ops listed ≠ [] ∧ ∀ i ∈ Region.ready md ops listed, i < n ∧ qOp P ops C i (wpAnyLQ P md ops C n L f (listed.setIfInBounds i true)) a
theorem wpAny_of_headQ {n g : Nat} {L : Array Bool → Act → Prop} {Q' : Exit → Act → World → Prop} (hL : ∀ listed a w, C w → L listed a → wpAny P md ops Q' g listed a w) :
    ∀ (f : Nat) (listed : Array Bool) (a : Act) (w : World), C w → wpAnyLQ P md ops C n L f listed a → wpAny P md ops Q' (f + g) listed a w
  | 0, listed, a, w, hw, h => by rw [Nat.zero_add]; exact hL _ _ _ hw h
  | f + 1, listed, a, w, hw, h => by
    rw [show f + 1 + g = (f + g) + 1 by omega]
    exact ⟨fun h0 => absurd h0 h.1, fun i hi => wpOp_of_qOp hw (fun a' w' hw' h' => wpAny_of_headQ hL f _ a' w' hw' h') (h.2 i hi).2⟩
theorem wpAnyLQ_first {n i : Nat} {oi : Oper} {v : Value} {L : Array Bool → Act → Prop} (hi : ops[i]? = some oi) (hsel : ∀ (j : Nat) (o : Oper) cs b, ops[j]? = some o → o.op ≠ .select cs b)
    (hs : Region.sinkB md ops n = true) (hc : Region.chainB md ops n = true) (hn : n < ops.size) (hin : i < n)
    (hdone : ∀ listed a, L listed a → ∀ j ∈ Region.ready md ops listed, n ≤ j) :
    ∀ (f : Nat) (listed : Array Bool) (a : Act), HeadInv md ops n listed →
      (∀ j oj, ops[j]? = some oj → j ≠ i → listed.getD j true = false → (∀ e ∈ oj.after, Region.binds md e = true → e.on ≠ i) → oi.apart ops oj = true) →
      i ∈ Region.ready md ops listed → YieldsIn P ops C oi v a →
      wpAnyLQ P md ops C n L f (listed.setIfInBounds i true) (a.put oi.dst v) → wpAnyLQ P md ops C n L (f + 1) listed a := by
  intro f
  induction f with
  | zero =>
    intro listed a inv _ hr hy H
    have hun := (mem_ready.1 hr).1
    refine ⟨fun h => (by rw [h] at hr; cases hr), fun j hj => ?_⟩
    have hjn : j < n := by
      rcases Nat.lt_or_ge j n with h | h
      · exact h
      · exact absurd hj (tail_waits hs hc hn inv _ i rfl hin hun j h)
    refine ⟨hjn, ?_⟩
    by_cases hji : j = i
    · subst hji; exact hy.qOp hi H
    · have := hdone _ _ H j (ready_mono hj hji)
      omega
  | succ f ih =>
    intro listed a inv hfree hr hy H
    have hun := (mem_ready.1 hr).1
    refine ⟨fun h => (by rw [h] at hr; cases hr), fun j hj => ?_⟩
    have hjn : j < n := by
      rcases Nat.lt_or_ge j n with h | h
      · exact h
      · exact absurd hj (tail_waits hs hc hn inv _ i rfl hin hun j h)
    refine ⟨hjn, ?_⟩
    by_cases hji : j = i
    · subst hji; exact hy.qOp hi H
    · have h1 := (H.2 j (ready_mono hj hji)).2
      obtain ⟨hjun, oj, hoj, hall⟩ := mem_ready.1 hj
      have hnot : ∀ e ∈ oj.after, Region.binds md e = true → e.on ≠ i := fun e he hb heq => by
        have h1 := hall e he hb
        rw [heq, getD_both hun] at h1
        cases h1
      have h2 := qOp_put hoj (hfree j oj hoj hji hjun hnot) (fun cs b => hsel i oi cs b hi) (fun cs b => hsel j oj cs b hoj) hy h1
      have hfree' : ∀ k ok, ops[k]? = some ok → k ≠ i → (listed.setIfInBounds j true).getD k true = false →
          (∀ e ∈ ok.after, Region.binds md e = true → e.on ≠ i) → oi.apart ops ok = true := fun k ok hk hki hun hno => by
        refine hfree k ok hk hki ?_ hno
        by_cases hjk : j = k
        · subst hjk; exact hjun
        · rw [getD_set_ne true hjk] at hun; exact hun
      refine qOp_mono (fun a' h3 => ih (listed.setIfInBounds j true) a' (inv.set hj hjn) hfree' (ready_mono hr (Ne.symm hji)) h3.1 ?_) h2
      rw [Array.setIfInBounds_comm _ _ hji]
      exact h3.2
theorem wpAnyLQ_lex {n g : Nat} {Lq : Act → Prop} (hsel : Region.noSelect ops = true) (hs : Region.sinkB md ops n = true) (hc : Region.chainB md ops n = true) (hn : n < ops.size) :
    ∀ (l : List Oper) (k : Nat) (listed : Array Bool) (a : Act), (∀ j, j < l.length → l[j]? = ops[k + j]?) → k + l.length = n → HeadInv md ops n listed →
    Region.lexHead md ops g l.length k listed = true → wpQuiet P ops C Lq l a →
    wpAnyLQ P md ops C n (fun listed' a' => Region.seqB md ops g n listed' = true ∧ Lq a') l.length listed a
  | [], k, listed, a, _, hk, _, hB, h => by
    have : k = n := by simpa using hk
    subst this
    exact ⟨by simpa [Region.lexHead] using hB, h⟩
  | o :: l, k, listed, a, hl, hk, inv, hB, h => by
    have h0 : ops[k]? = some o := by simpa using (hl 0 (by simp)).symm
    simp only [List.length_cons, Region.lexHead, Bool.and_eq_true] at hB
    obtain ⟨⟨hr, hf⟩, hB'⟩ := hB
    have hkn : k < n := by simp only [List.length_cons] at hk; omega
    have hr' : k ∈ Region.ready md ops listed := by simpa using hr
    have hst : qOp P ops C k (wpQuiet P ops C Lq l) a := by unfold qOp; simp only [h0]; exact h
    obtain ⟨v, hy, hK⟩ := yieldsIn_of_qOp h0 hst
    exact wpAnyLQ_first h0 (Region.noSelect_spec hsel) hs hc hn hkn (fun listed' a' hL => seqB_ready hL.1) l.length listed a inv (Region.free_spec h0 hf) hr' hy
      (wpAnyLQ_lex hsel hs hc hn l (k + 1) _ _ (fun j hj => by have := hl (j + 1) (by simp; omega); simpa [Nat.add_assoc, Nat.add_comm 1 j] using this) (by simp only [List.length_cons] at hk; omega) (inv.set hr' hkn) hB' hK)
/-- ONE WALK: the first n operations within the class; those behind them one by one. -/
theorem wp_region_quiet_tail {id : Nat} {Q : Exit → Act → World → Prop} {a : Act} {w : World} {l : List Oper} (n : Nat) (hm : P.follows .mixedOrders = true) (hB : Region.lexTailB .any l.toArray n = true) (hC : C { w with drawn := w.drawn + 1 })
    (h : wpQuiet P l.toArray C (fun a' => ∀ w', C w' → wpList P l.toArray Q (l.drop n) a' w') (l.take n) a) : (Code.region id l.toArray true).wp P Q a w := by
  simp only [Region.lexTailB, Bool.and_eq_true, decide_eq_true_eq] at hB
  obtain ⟨⟨⟨⟨hsel, hn⟩, hs⟩, hc⟩, hlex⟩ := hB
  have hn' : n < l.length := by simpa using hn
  have htl : (l.take n).length = n := by simp; omega
  have hdl : (l.drop n).length = l.toArray.size - n := by simp
  have inv0 : HeadInv .any l.toArray n (Array.replicate l.toArray.size false) :=
    ⟨by simp, fun j oj _ hl => (by rw [getD_replicate_false] at hl; cases hl), fun t _ ht => getD_in (by simpa using ht) (getD_replicate_false _ _)⟩
  have H := wpAnyLQ_lex (md := .any) (g := l.toArray.size - n) hsel hs hc hn (l.take n) 0 _ a (fun j hj => by
    have hj' : j < n := by rw [htl] at hj; exact hj
    simp [hj']) (by simpa using htl) inv0 (by rw [htl]; exact hlex) h
  refine wp_region_any hm ?_
  have := wpAny_of_headQ (Q' := Q) (g := l.toArray.size - n) (fun listed a' w' hw' hL => by
    have := wpAny_of_seq (md := .any) (Q' := Q) (l.drop n) n listed a' w' (fun j => by simp [List.getElem?_drop]) (by rw [hdl]; exact hL.1) (hL.2 w' hw')
    rwa [hdl] at this) _ _ _ _ hC H
  rw [htl, show n + (l.toArray.size - n) = l.toArray.size by omega] at this
  exact this
end
section
variable {F : Fence} {m : Nat} {P : Program} {ops : Array Oper} {md : Region.Mode} {C : World → Prop}
def noDefer (ops : Array Oper) : Bool := ops.all fun o => match o.op with | .defer .. => false | _ => true
theorem noDefer_spec (h : noDefer ops = true) (j : Nat) (o : Oper) (ho : ops[j]? = some o) : ∀ c, o.op ≠ .defer c := by
  intro c hc
  have h1 := Array.all_eq_true'.1 h o (Array.mem_of_getElem? ho)
  rw [hc] at h1
  cases h1
theorem wpIn_of_quietR {o : Oper} {a : Act} {K : Act → Prop} {K' : Act → World → Prop} {Q' : Exit → Act → World → Prop} {w : World} (hro : ∀ c, o.op ≠ .defer c) (hw : C w) (h : ∀ a w', C w' → K a → K' a w')
    (ha : o.askedIn F P a C) (hh : o.quietIn F m P a C K) : o.wpIn F m P a w K' Q' := by
  obtain ⟨v, h1, h2⟩ := hh
  have h3 := h1 w hw
  unfold Oper.quietAtIn at h3
  unfold Oper.wpIn
  refine ⟨ha w hw, ?_⟩
  rw [Oper.semAt_plain F _ _ hro]
  generalize (execOp a.eval o).run P w = r at *
  cases r with
  | ok x w' =>
    cases x <;> simp only [Oper.quietUponIn] at h3 <;> simp only [Oper.uponIn]
    case value u =>
      obtain ⟨e1, e2⟩ := h3
      rw [e1, e2]
      exact h _ _ hw h2
    case skip =>
      obtain ⟨e1, e2⟩ := h3
      rw [e1, ← e2]
      exact h _ _ hw h2
    case enter f args =>
      obtain ⟨e1, hd, hc⟩ := h3
      rw [e1]
      exact ⟨hd, hc.mono fun e w'' ⟨he, hw''⟩ => by subst he; exact h _ _ hw'' h2⟩
  | halt x w' => simp only [Oper.quietUponIn] at h3
theorem wpOpIn_of_qOpInR {i : Nat} {a : Act} {K : Act → Prop} {K' : Act → World → Prop} {Q' : Exit → Act → World → Prop} {w : World} (hnd : noDefer ops = true) (hC : C w) (h : ∀ a w', C w' → K a → K' a w')
    (hh : qOpIn F m P ops C i K a) : wpOpIn F m P ops Q' i K' a w := by
  unfold qOpIn at hh
  unfold wpOpIn
  split
  · rename_i ho; simp only [ho] at hh; exact h _ _ hC hh
  · rename_i o ho
    simp only [ho] at hh
    obtain ⟨ha, hh⟩ := hh
    split
    · rename_i hw; simp only [hw, if_true] at hh; exact wpIn_of_quietR (noDefer_spec hnd i o ho) hC h ha hh
    · rename_i hw; simp only [hw] at hh; exact ⟨ha w hC, h _ _ hC hh⟩
theorem wpAnyIn_of_quietR {Q : Act → Prop} {Q' : Exit → Act → World → Prop} (hnd : noDefer ops = true) (hQ : ∀ a w, C w → Q a → Q' .normal a w) : ∀ (fuel : Nat) (listed : Array Bool) (a : Act) (w : World), C w →
    wpAnyQIn F m P md ops C Q fuel listed a → wpAnyIn F m P md ops Q' fuel listed a w
  | 0, _, _, _, hw, h => ⟨h.1, hQ _ _ hw h.2⟩
  | fuel + 1, _, _, _, hw, h => ⟨fun h0 => hQ _ _ hw (h.1 h0), fun i hi => wpOpIn_of_qOpInR hnd hw (fun a' w' hw' => wpAnyIn_of_quietR hnd hQ fuel _ a' w' hw') (h.2 i hi)⟩
/-- ONE WALK, inside a fence, in a round or not. -/
theorem wpIn_region_quietR {id : Nat} {Q : Exit → Act → World → Prop} {a : Act} {w : World} {l : List Oper} (hnd : noDefer l.toArray = true) (hm : P.follows .mixedOrders = true) (hB : Region.lexB .any l.toArray = true)
    (h : wpQuietIn F m P l.toArray (fun w' => ∃ n, w' = w.drewN n) (fun a' => ∀ w', (∃ n, w' = w.drewN n) → Q .normal a' w') l a) : (Code.region id l.toArray true).wpIn F m P Q a w := by
  simp only [Region.lexB, Bool.and_eq_true] at hB
  refine wpIn_region_any hm (wpAnyIn_of_quietR (C := fun w' => ∃ n, w' = w.drewN n) (Q := fun a' => ∀ w', (∃ n, w' = w.drewN n) → Q .normal a' w') hnd (fun _ w' hw' h => h w' hw') _ _ _ _ ⟨1, rfl⟩ ?_)
  have := wpAnyQIn_lex (F := F) (n := m) (C := fun w' => ∃ n, w' = w.drewN n) (md := .any) hB.1 l 0 (Array.replicate l.toArray.size false) a (by simp) (by simpa using hB.2) h
  simpa using this
def wpAnyLQIn (F : Fence) (m : Nat) (P : Program) (md : Region.Mode) (ops : Array Oper) (C : World → Prop) (n : Nat) (L : Array Bool → Act → Prop) : Nat → Array Bool → Act → Prop
  | 0, listed, a => L listed a
  | f + 1, listed, a =>
    Region.ready md ops listed ≠ [] ∧ ∀ i ∈ Region.ready md ops listed, i < n ∧ qOpIn F m P ops C i (wpAnyLQIn F m P md ops C n L f (listed.setIfInBounds i true)) a
theorem wpAnyIn_of_headQ {n g : Nat} {L : Array Bool → Act → Prop} {Q' : Exit → Act → World → Prop} (hnd : noDefer ops = true) (hL : ∀ listed a w, C w → L listed a → wpAnyIn F m P md ops Q' g listed a w) :
    ∀ (f : Nat) (listed : Array Bool) (a : Act) (w : World), C w → wpAnyLQIn F m P md ops C n L f listed a → wpAnyIn F m P md ops Q' (f + g) listed a w
  | 0, listed, a, w, hw, h => by rw [Nat.zero_add]; exact hL _ _ _ hw h
  | f + 1, listed, a, w, hw, h => by
    rw [show f + 1 + g = (f + g) + 1 by omega]
    exact ⟨fun h0 => absurd h0 h.1, fun i hi => wpOpIn_of_qOpInR hnd hw (fun a' w' hw' h' => wpAnyIn_of_headQ hnd hL f _ a' w' hw' h') (h.2 i hi).2⟩
theorem wpAnyLQIn_first {n i : Nat} {oi : Oper} {v : Value} {L : Array Bool → Act → Prop} (hi : ops[i]? = some oi) (hsel : ∀ (j : Nat) (o : Oper) cs b, ops[j]? = some o → o.op ≠ .select cs b)
    (hs : Region.sinkB md ops n = true) (hc : Region.chainB md ops n = true) (hn : n < ops.size) (hin : i < n)
    (hdone : ∀ listed a, L listed a → ∀ j ∈ Region.ready md ops listed, n ≤ j) :
    ∀ (f : Nat) (listed : Array Bool) (a : Act), HeadInv md ops n listed →
      (∀ j oj, ops[j]? = some oj → j ≠ i → listed.getD j true = false → (∀ e ∈ oj.after, Region.binds md e = true → e.on ≠ i) → oi.apart ops oj = true) →
      i ∈ Region.ready md ops listed → YieldsQuiet F m P ops C oi v a →
      wpAnyLQIn F m P md ops C n L f (listed.setIfInBounds i true) (a.put oi.dst v) → wpAnyLQIn F m P md ops C n L (f + 1) listed a := by
  intro f
  induction f with
  | zero =>
    intro listed a inv _ hr hy H
    have hun := (mem_ready.1 hr).1
    refine ⟨fun h => (by rw [h] at hr; cases hr), fun j hj => ?_⟩
    have hjn : j < n := by
      rcases Nat.lt_or_ge j n with h | h
      · exact h
      · exact absurd hj (tail_waits hs hc hn inv _ i rfl hin hun j h)
    refine ⟨hjn, ?_⟩
    by_cases hji : j = i
    · subst hji; exact hy.qOpIn hi H
    · have := hdone _ _ H j (ready_mono hj hji)
      omega
  | succ f ih =>
    intro listed a inv hfree hr hy H
    have hun := (mem_ready.1 hr).1
    refine ⟨fun h => (by rw [h] at hr; cases hr), fun j hj => ?_⟩
    have hjn : j < n := by
      rcases Nat.lt_or_ge j n with h | h
      · exact h
      · exact absurd hj (tail_waits hs hc hn inv _ i rfl hin hun j h)
    refine ⟨hjn, ?_⟩
    by_cases hji : j = i
    · subst hji; exact hy.qOpIn hi H
    · have h1 := (H.2 j (ready_mono hj hji)).2
      obtain ⟨hjun, oj, hoj, hall⟩ := mem_ready.1 hj
      have hnot : ∀ e ∈ oj.after, Region.binds md e = true → e.on ≠ i := fun e he hb heq => by
        have h1 := hall e he hb
        rw [heq, getD_both hun] at h1
        cases h1
      have h2 := qOpIn_put hoj (hfree j oj hoj hji hjun hnot) (fun cs b => hsel i oi cs b hi) (fun cs b => hsel j oj cs b hoj) hy h1
      have hfree' : ∀ k ok, ops[k]? = some ok → k ≠ i → (listed.setIfInBounds j true).getD k true = false →
          (∀ e ∈ ok.after, Region.binds md e = true → e.on ≠ i) → oi.apart ops ok = true := fun k ok hk hki hun hno => by
        refine hfree k ok hk hki ?_ hno
        by_cases hjk : j = k
        · subst hjk; exact hjun
        · rw [getD_set_ne true hjk] at hun; exact hun
      refine qOpIn_mono (fun a' h3 => ih (listed.setIfInBounds j true) a' (inv.set hj hjn) hfree' (ready_mono hr (Ne.symm hji)) h3.1 ?_) h2
      rw [Array.setIfInBounds_comm _ _ hji]
      exact h3.2
theorem wpAnyLQIn_lex {n g : Nat} {Lq : Act → Prop} (hsel : Region.noSelect ops = true) (hs : Region.sinkB md ops n = true) (hc : Region.chainB md ops n = true) (hn : n < ops.size) :
    ∀ (l : List Oper) (k : Nat) (listed : Array Bool) (a : Act), (∀ j, j < l.length → l[j]? = ops[k + j]?) → k + l.length = n → HeadInv md ops n listed →
    Region.lexHead md ops g l.length k listed = true → wpQuietIn F m P ops C Lq l a →
    wpAnyLQIn F m P md ops C n (fun listed' a' => Region.seqB md ops g n listed' = true ∧ Lq a') l.length listed a
  | [], k, listed, a, _, hk, _, hB, h => by
    have : k = n := by simpa using hk
    subst this
    exact ⟨by simpa [Region.lexHead] using hB, h⟩
  | o :: l, k, listed, a, hl, hk, inv, hB, h => by
    have h0 : ops[k]? = some o := by simpa using (hl 0 (by simp)).symm
    simp only [List.length_cons, Region.lexHead, Bool.and_eq_true] at hB
    obtain ⟨⟨hr, hf⟩, hB'⟩ := hB
    have hkn : k < n := by simp only [List.length_cons] at hk; omega
    have hr' : k ∈ Region.ready md ops listed := by simpa using hr
    have hst : qOpIn F m P ops C k (wpQuietIn F m P ops C Lq l) a := by unfold qOpIn; simp only [h0]; exact h
    obtain ⟨v, hy, hK⟩ := yieldsQuiet_of_qOpIn h0 hst
    exact wpAnyLQIn_first h0 (Region.noSelect_spec hsel) hs hc hn hkn (fun listed' a' hL => seqB_ready hL.1) l.length listed a inv (Region.free_spec h0 hf) hr' hy
      (wpAnyLQIn_lex hsel hs hc hn l (k + 1) _ _ (fun j hj => by have := hl (j + 1) (by simp; omega); simpa [Nat.add_assoc, Nat.add_comm 1 j] using this) (by simp only [List.length_cons] at hk; omega) (inv.set hr' hkn) hB' hK)
theorem wpOpIn_mono' {i : Nat} {a : Act} {w : World} {Q' : Exit → Act → World → Prop} {K K' : Act → World → Prop} (h : ∀ a w, K a w → K' a w) (hh : wpOpIn F m P ops Q' i K a w) : wpOpIn F m P ops Q' i K' a w :=
  wpOpIn_mono h hh
theorem wpAnyIn_of_seq {Q' : Exit → Act → World → Prop} : ∀ (l : List Oper) (k : Nat) (listed : Array Bool) (a : Act) (w : World), (∀ j, l[j]? = ops[k + j]?) →
    Region.seqB md ops l.length k listed = true → wpListIn F m P ops Q' l a w → wpAnyIn F m P md ops Q' l.length listed a w
  | [], _, _, _, _, _, hB, h => ⟨by simpa [Region.seqB] using hB, h⟩
  | o :: l, k, listed, a, w, hl, hB, h => by
    have h0 : ops[k]? = some o := by simpa using (hl 0).symm
    simp only [List.length_cons, Region.seqB, Bool.and_eq_true, decide_eq_true_eq] at hB
    refine ⟨fun h1 => (by rw [hB.1] at h1; cases h1), fun i hi => ?_⟩
    rw [hB.1] at hi
    have hik : i = k := by simpa using hi
    subst hik
    have hw : wpOpIn F m P ops Q' i (wpListIn F m P ops Q' l) a w := by unfold wpOpIn; simp only [h0]; exact h
    exact wpOpIn_mono' (fun a' w' h' => wpAnyIn_of_seq l (i + 1) _ a' w' (fun j => by have := hl (j + 1); simpa [Nat.add_assoc, Nat.add_comm 1 j] using this) hB.2 h') hw
/-- ONE WALK, inside a fence, in a round or not: the first n operations within the class; those behind them one by one. -/
theorem wpIn_region_quiet_tail {id : Nat} {Q : Exit → Act → World → Prop} {a : Act} {w : World} {l : List Oper} (n : Nat) (hnd : noDefer l.toArray = true) (hm : P.follows .mixedOrders = true) (hB : Region.lexTailB .any l.toArray n = true) (hC : C { w with drawn := w.drawn + 1 })
    (h : wpQuietIn F m P l.toArray C (fun a' => ∀ w', C w' → wpListIn F m P l.toArray Q (l.drop n) a' w') (l.take n) a) : (Code.region id l.toArray true).wpIn F m P Q a w := by
  simp only [Region.lexTailB, Bool.and_eq_true, decide_eq_true_eq] at hB
  obtain ⟨⟨⟨⟨hsel, hn⟩, hs⟩, hc⟩, hlex⟩ := hB
  have hn' : n < l.length := by simpa using hn
  have htl : (l.take n).length = n := by simp; omega
  have hdl : (l.drop n).length = l.toArray.size - n := by simp
  have inv0 : HeadInv .any l.toArray n (Array.replicate l.toArray.size false) :=
    ⟨by simp, fun j oj _ hl => (by rw [getD_replicate_false] at hl; cases hl), fun t _ ht => getD_in (by simpa using ht) (getD_replicate_false _ _)⟩
  have H := wpAnyLQIn_lex (md := .any) (g := l.toArray.size - n) hsel hs hc hn (l.take n) 0 _ a (fun j hj => by
    have hj' : j < n := by rw [htl] at hj; exact hj
    simp [hj']) (by simpa using htl) inv0 (by rw [htl]; exact hlex) h
  refine wpIn_region_any hm ?_
  have := wpAnyIn_of_headQ (Q' := Q) (g := l.toArray.size - n) hnd (fun listed a' w' hw' hL => by
    have := wpAnyIn_of_seq (md := .any) (Q' := Q) (l.drop n) n listed a' w' (fun j => by simp [List.getElem?_drop]) (by rw [hdl]; exact hL.1) (hL.2 w' hw')
    rwa [hdl] at this) _ _ _ _ hC H
  rw [htl, show n + (l.toArray.size - n) = l.toArray.size by omega] at this
  exact this
end
section
variable {P : Program} {ops : Array Oper} {md : Region.Mode} {C : World → Prop}
/-- Each of the first n operations but those ahead of f is waited for by one that is not behind n. -/
def sinkFrom (md : Region.Mode) (ops : Array Oper) (f n : Nat) : Bool :=
  (List.range n).all fun i => decide (i < f) || (List.range (n + 1)).any fun j => decide (i < j) && Region.waitsFor md ops j i
theorem tail_waitsF {f n : Nat} {listed : Array Bool} (hs : sinkFrom md ops f n = true) (hc : Region.chainB md ops n = true) (hn : n < ops.size) (inv : HeadInv md ops n listed) :
    ∀ (d i : Nat), n - i = d → f ≤ i → i < n → listed.getD i true = false → ∀ t, n ≤ t → t ∉ Region.ready md ops listed := by
  intro d
  induction d using Nat.strongRecOn with
  | _ d ih =>
    intro i hd hf hi hun t ht hr
    obtain ⟨_, ot, hot, hall⟩ := mem_ready.1 hr
    have htlt : t < ops.size := (Array.getElem?_eq_some_iff.1 hot).1
    by_cases htn : t = n
    · subst htn
      have h1 := List.all_eq_true.1 hs i (List.mem_range.2 hi)
      rw [decide_eq_false (by omega), Bool.false_or] at h1
      obtain ⟨j, hj, hj2⟩ := List.any_eq_true.1 h1
      simp only [Bool.and_eq_true, decide_eq_true_eq] at hj2
      obtain ⟨oj, hoj, e, he, hb, hon⟩ := Region.waitsFor_spec hj2.2
      have hjle : j ≤ t := by have := List.mem_range.1 hj; omega
      have hjt : j ≠ t := fun e' => by
        subst e'
        have : oj = ot := Option.some.inj (hoj.symm.trans hot)
        subst this
        have h2 := hall e he hb
        rw [hon, getD_both hun] at h2
        cases h2
      cases hl : listed.getD j false with
      | true =>
        have h2 := inv.closed j oj hoj hl e he hb
        rw [hon, getD_both hun] at h2
        cases h2
      | false => exact ih (t - j) (by omega) j rfl (by omega) (by omega) (getD_in (by rw [inv.size]; omega) hl) t (Nat.le_refl _) hr
    · have h1 := List.all_eq_true.1 hc t (List.mem_range.2 htlt)
      simp only [Bool.or_eq_true, decide_eq_true_eq] at h1
      rcases h1 with h1 | h1
      · omega
      · obtain ⟨o', ho', e, he, hb, hon⟩ := Region.waitsFor_spec h1
        have : o' = ot := Option.some.inj (ho'.symm.trans hot)
        subst this
        have h2 := hall e he hb
        rw [hon, getD_both (inv.tail (t - 1) (by omega) (by omega))] at h2
        cases h2
theorem wpAnyLQ_firstF {f n i : Nat} {oi : Oper} {v : Value} {L : Array Bool → Act → Prop} (hi : ops[i]? = some oi) (hsel : ∀ (j : Nat) (o : Oper) cs b, ops[j]? = some o → o.op ≠ .select cs b)
    (hs : sinkFrom md ops f n = true) (hc : Region.chainB md ops n = true) (hn : n < ops.size) (hin : i < n) (hfi : f ≤ i)
    (hdone : ∀ listed a, L listed a → ∀ j ∈ Region.ready md ops listed, n ≤ j) :
    ∀ (g : Nat) (listed : Array Bool) (a : Act), HeadInv md ops n listed →
      (∀ j oj, ops[j]? = some oj → j ≠ i → listed.getD j true = false → (∀ e ∈ oj.after, Region.binds md e = true → e.on ≠ i) → oi.apart ops oj = true) →
      i ∈ Region.ready md ops listed → YieldsIn P ops C oi v a →
      wpAnyLQ P md ops C n L g (listed.setIfInBounds i true) (a.put oi.dst v) → wpAnyLQ P md ops C n L (g + 1) listed a := by
  intro g
  induction g with
  | zero =>
    intro listed a inv _ hr hy H
    have hun := (mem_ready.1 hr).1
    refine ⟨fun h => (by rw [h] at hr; cases hr), fun j hj => ?_⟩
    have hjn : j < n := by
      rcases Nat.lt_or_ge j n with h | h
      · exact h
      · exact absurd hj (tail_waitsF hs hc hn inv _ i rfl hfi hin hun j h)
    refine ⟨hjn, ?_⟩
    by_cases hji : j = i
    · subst hji; exact hy.qOp hi H
    · have := hdone _ _ H j (ready_mono hj hji)
      omega
  | succ g ih =>
    intro listed a inv hfree hr hy H
    have hun := (mem_ready.1 hr).1
    refine ⟨fun h => (by rw [h] at hr; cases hr), fun j hj => ?_⟩
    have hjn : j < n := by
      rcases Nat.lt_or_ge j n with h | h
      · exact h
      · exact absurd hj (tail_waitsF hs hc hn inv _ i rfl hfi hin hun j h)
    refine ⟨hjn, ?_⟩
    by_cases hji : j = i
    · subst hji; exact hy.qOp hi H
    · have h1 := (H.2 j (ready_mono hj hji)).2
      obtain ⟨hjun, oj, hoj, hall⟩ := mem_ready.1 hj
      have hnot : ∀ e ∈ oj.after, Region.binds md e = true → e.on ≠ i := fun e he hb heq => by
        have h1 := hall e he hb
        rw [heq, getD_both hun] at h1
        cases h1
      have h2 := qOp_put hoj (hfree j oj hoj hji hjun hnot) (fun cs b => hsel i oi cs b hi) (fun cs b => hsel j oj cs b hoj) hy h1
      have hfree' : ∀ k ok, ops[k]? = some ok → k ≠ i → (listed.setIfInBounds j true).getD k true = false →
          (∀ e ∈ ok.after, Region.binds md e = true → e.on ≠ i) → oi.apart ops ok = true := fun k ok hk hki hkun hno => by
        refine hfree k ok hk hki ?_ hno
        by_cases hjk : j = k
        · subst hjk; exact hjun
        · rw [getD_set_ne true hjk] at hkun; exact hkun
      refine qOp_mono (fun a' h3 => ih (listed.setIfInBounds j true) a' (inv.set hj hjn) hfree' (ready_mono hr (Ne.symm hji)) h3.1 ?_) h2
      rw [Array.setIfInBounds_comm _ _ hji]
      exact h3.2
theorem wpAnyLQ_lexF {f n g : Nat} {Lq : Act → Prop} (hsel : Region.noSelect ops = true) (hs : sinkFrom md ops f n = true) (hc : Region.chainB md ops n = true) (hn : n < ops.size) :
    ∀ (l : List Oper) (k : Nat) (listed : Array Bool) (a : Act), (∀ j, j < l.length → l[j]? = ops[k + j]?) → k + l.length = n → f ≤ k → HeadInv md ops n listed →
    Region.lexHead md ops g l.length k listed = true → wpQuiet P ops C Lq l a →
    wpAnyLQ P md ops C n (fun listed' a' => Region.seqB md ops g n listed' = true ∧ Lq a') l.length listed a
  | [], k, listed, a, _, hk, _, _, hB, h => by
    have : k = n := by simpa using hk
    subst this
    exact ⟨by simpa [Region.lexHead] using hB, h⟩
  | o :: l, k, listed, a, hl, hk, hf, inv, hB, h => by
    have h0 : ops[k]? = some o := by simpa using (hl 0 (by simp)).symm
    simp only [List.length_cons, Region.lexHead, Bool.and_eq_true] at hB
    obtain ⟨⟨hr, hfr⟩, hB'⟩ := hB
    have hkn : k < n := by simp only [List.length_cons] at hk; omega
    have hr' : k ∈ Region.ready md ops listed := by simpa using hr
    have hst : qOp P ops C k (wpQuiet P ops C Lq l) a := by unfold qOp; simp only [h0]; exact h
    obtain ⟨v, hy, hK⟩ := yieldsIn_of_qOp h0 hst
    exact wpAnyLQ_firstF h0 (Region.noSelect_spec hsel) hs hc hn hkn hf (fun listed' a' hL => seqB_ready hL.1) l.length listed a inv (Region.free_spec h0 hfr) hr' hy
      (wpAnyLQ_lexF hsel hs hc hn l (k + 1) _ _ (fun j hj => by have := hl (j + 1) (by simp; omega); simpa [Nat.add_assoc, Nat.add_comm 1 j] using this) (by simp only [List.length_cons] at hk; omega) (by omega) (inv.set hr' hkn) hB' hK)
def moveTailB (md : Region.Mode) (ops : Array Oper) (n : Nat) : Bool :=
  Region.noSelect ops && decide (n < ops.size) && decide (1 ≤ n) && Region.free md ops (Array.replicate ops.size false) 0 && (Region.ready md ops (Array.replicate ops.size false)).contains 0 && sinkFrom md ops 1 n && Region.chainB md ops n &&
    Region.lexHead md ops (ops.size - n) (n - 1) 1 ((Array.replicate ops.size false).setIfInBounds 0 true)
/-- ONE WALK, where the first operation but hands a slot's value on to the tail. -/
theorem wp_region_move_tail {id : Nat} {Q : Exit → Act → World → Prop} {a : Act} {w : World} {o : Oper} {l : List Oper} (n : Nat) (x : Operand) (ho : o.op = .move x) (hg : o.guard = none) (hm : P.follows .mixedOrders = true) (hB : moveTailB .any (o :: l).toArray n = true) (hC : C { w with drawn := w.drawn + 1 })
    (hQ : ∀ c (a' : Act) w v, Q (.panic c) (a'.put o.dst v) w → Q (.panic c) a' w)
    (h : wpQuiet P (o :: l).toArray C (fun a' => ∀ w', C w' → wpList P (o :: l).toArray Q (l.drop (n - 1)) a' w') (l.take (n - 1)) (a.put o.dst (a.eval x))) : (Code.region id (o :: l).toArray true).wp P Q a w := by
  simp only [moveTailB, Bool.and_eq_true, decide_eq_true_eq] at hB
  obtain ⟨⟨⟨⟨⟨⟨⟨hsel, hn⟩, hn1⟩, hf0⟩, hr0⟩, hs⟩, hc⟩, hlex⟩ := hB
  have hsz : (o :: l).toArray.size = l.length + 1 := by simp
  have hn' : n < l.length + 1 := by rw [← hsz]; exact hn
  have htl : (l.take (n - 1)).length = n - 1 := by simp; omega
  have hdl : (l.drop (n - 1)).length = (o :: l).toArray.size - n := by simp; omega
  have inv00 : HeadInv .any (o :: l).toArray n (Array.replicate (o :: l).toArray.size false) :=
    ⟨by simp, fun j oj _ hl => (by rw [getD_replicate_false] at hl; cases hl), fun t _ ht => getD_in (by simpa using ht) (getD_replicate_false _ _)⟩
  have h00 : 0 ∈ Region.ready .any (o :: l).toArray (Array.replicate (o :: l).toArray.size false) := by simpa using hr0
  have inv0 := inv00.set h00 (by omega)
  have H := wpAnyLQ_lexF (md := .any) (f := 1) (g := (o :: l).toArray.size - n) hsel hs hc hn (l.take (n - 1)) 1 _ (a.put o.dst (a.eval x)) (fun j hj => by
    have hj' : j < n - 1 := by rw [htl] at hj; exact hj
    rw [List.getElem?_take, if_pos hj', Nat.add_comm 1 j]
    simp) (by rw [htl]; omega) (Nat.le_refl _) inv0 (by rw [htl]; exact hlex) h
  refine wp_region_any hm ?_
  have h2 := wpAny_of_headQ (Q' := Q) (g := (o :: l).toArray.size - n) (fun listed a' w' hw' hL => by
    have := wpAny_of_seq (md := .any) (Q' := Q) (l.drop (n - 1)) n listed a' w' (fun j => by
      rw [List.getElem?_drop, show n + j = (n - 1 + j) + 1 by omega]
      simp) (by rw [hdl]; exact hL.1) (hL.2 w' hw')
    rwa [hdl] at this) _ _ _ _ hC H
  rw [htl] at h2
  have h3 := wpAny_take (md := .any) (i := 0) (oi := o) (v := a.eval x) (by simp) hsel hf0 hr0 (fun c a' w' hq => hQ c a' w' _ hq) (by
    refine .inl ⟨by simp [Region.wanted, hg], fun w' => ?_⟩
    simp [execOp, ho, Sem.run_pure]) h2
  rw [show n - 1 + ((o :: l).toArray.size - n) + 1 = (o :: l).toArray.size by omega] at h3
  exact h3
end
end Go.Proofs.YtjbdhakogbolkaaDoor
end
section
/- strings.Clone, model.copied: their contracts. -/
namespace Go.Proofs.YtjbdhakogbolkaaDoor
open Go.RowKit Go.Sort Go.Joins
theorem infoB : (Tryd.prog.info? 5).map (fun i => (i.zero, i.size, i.bytes)) = some (some (.int .u8 0), 1, 1) := by kernel_rfl
theorem sizeB : (Tryd.prog.info? 5).map (·.size) = some 1 := by kernel_rfl
set_option maxHeartbeats 4000000 in
set_option maxRecDepth 100000 in
theorem slclone_any (s : ByteArray) (w : World) (hlim : s.size ≤ 140737488355328) :
    Calls Tryd.prog 83 #[.string s] w fun e w' => e = .returned (.string s) ∧ Below w.heap.size w w' := by
  by_cases h0 : s.size = 0
  · have hs : s = ⟨#[]⟩ := by
      apply ByteArray.ext
      exact Array.eq_empty_of_size_eq_zero h0
    subst hs
    go_enter Tryd.func83, Tryd.ntmps83
    go_wp2_with fail
    go_ret
    exact ⟨rfl, Below.refl _ _⟩
  · obtain ⟨i0, hi, hz0, hz1, hz2⟩ := info_parts infoB
    have hco : Tryd.prog.cellsOf 5 = 1 := by kernel_rfl
    obtain ⟨M, hM⟩ : ∃ M, M = madeCells (Value.int .u8 0).cells (((s.size : Nat) : Int).toNat * i0.size) := ⟨_, rfl⟩
    have hMs : M.size = s.size := by rw [hM, size_madeCells, hz1]; simp
    have hmk : ∀ W : World, (Instr.makeSlice 39 (.int .i64 (s.size : Int)) (.int .i64 (s.size : Int))).run Tryd.prog W = .ok (.slice (some ⟨W.heap.size, 0, none⟩) s.size s.size) (W.alloc (.cells M 5)) := fun W => by
      have h := run_make (P := Tryd.prog) W 39 5 i0 (.int .u8 0) Tryd.underlying39 hi hz0 .i64 .i64 (s.size : Int) (s.size : Int) (by omega) (by omega) (by rw [hz2]; omega) (by omega)
      rw [← hM] at h
      simpa using h
    clear hM
    have hcp := Lib.run_copy_row_string (P := Tryd.prog) (w.alloc (.cells M 5)) 39 9 3 5 w.heap.size 0 s.size s.size s M 5 Tryd.underlying39 sizeB (heap_alloc_new w _) (Nat.le_refl _) (by omega)
    obtain ⟨Y, hY⟩ : ∃ Y, Y = (M.toList.take 0 ++ Lib.byteCells s.data.toList ++ M.toList.drop (0 + s.size)).toArray := ⟨_, rfl⟩
    rw [← hY] at hcp
    have hYl : Y.toList = Lib.byteCells s.data.toList := by
      rw [hY, List.toList_toArray, List.take_zero, List.nil_append, List.drop_of_length_le (by rw [Array.length_toList]; omega), List.append_nil]
    have hYs : Y.size = s.size := by rw [← Array.length_toList, hYl, Lib.byteCells_length, ← Lib.size_eq]
    have hgY : ((w.alloc (.cells M 5)).setRow w.heap.size Y).heap[w.heap.size]? = some (.cells Y 5 (0, 0)) := setRow_heap _ _ M _ 5 (0, 0) (heap_alloc_new w _)
    have hne : s.data.toList ≠ [] := fun e => h0 (by rw [Lib.size_eq, e]; rfl)
    have hUS := Lib.run_unsafeString_row (P := Tryd.prog) ((w.alloc (.cells M 5)).setRow w.heap.size Y) 165 3 9 5 Tryd.underlying165 hco w.heap.size Y.size (by unfold World.shape?; rw [hgY]) s.data.toList hne (by rw [← Lib.size_eq]; omega) (by rw [← Lib.size_eq]; omega)
      (fun j x hx => Lib.cells_of_row hgY Y.size j _ (by rw [List.take_of_length_le (by rw [Array.length_toList]; exact Nat.le_refl _), hYl]; simp [Lib.byteCells, hx]))
    rw [← Lib.size_eq] at hUS
    clear hY
    go_enter Tryd.func83, Tryd.ntmps83
    go_wp2
    go_ret
    have hb1 := box_below w (.cells M 5)
    have hb2 : Below w.heap.size (w.alloc (.cells M 5)) ((w.alloc (.cells M 5)).setRow w.heap.size Y) := ⟨rfl, rfl, rfl, by simp, fun k hk => setRow_other _ _ _ _ (by omega)⟩
    exact ⟨rfl, Lib.below_freeze (hb1.trans hb2) (p := ⟨w.heap.size, 0, none⟩) (Nat.le_refl _) _⟩
set_option maxHeartbeats 1000000 in
theorem sclone_any (s : ByteArray) (w : World) (hlim : s.size ≤ 140737488355328) :
    Calls Tryd.prog 63 #[.string s] w fun e w' => e = .returned (.string s) ∧ Below w.heap.size w w' := by
  go_enter Tryd.func63, Tryd.ntmps63
  go_wp2_with fail
  refine (slclone_any s _ hlim).mono ?_
  rintro e w1 ⟨rfl, hb⟩
  go_wp2_with fail
  go_ret
  exact ⟨rfl, hb⟩
/-- One cell of a block of data written. -/
theorem DBox.set {w : World} {z : Nat} {v0 v1 v2 v3 v4 : Value} (h : DBox w z v0 v1 v2 v3 v4) (i : Nat) (u : Value) : (w.setCell ⟨z, i, none⟩ u).heap[z]? = some (.cells (#[v0, v1, v2, v3, v4].setIfInBounds i u) 30 (0, 0)) := block_setCell h u
theorem DBox.s0 {w : World} {z : Nat} {v0 v1 v2 v3 v4 : Value} (h : DBox w z v0 v1 v2 v3 v4) (u : Value) : DBox (w.setCell ⟨z, 0, none⟩ u) z u v1 v2 v3 v4 := h.set 0 u
theorem DBox.s1 {w : World} {z : Nat} {v0 v1 v2 v3 v4 : Value} (h : DBox w z v0 v1 v2 v3 v4) (u : Value) : DBox (w.setCell ⟨z, 1, none⟩ u) z v0 u v2 v3 v4 := h.set 1 u
theorem DBox.s2 {w : World} {z : Nat} {v0 v1 v2 v3 v4 : Value} (h : DBox w z v0 v1 v2 v3 v4) (u : Value) : DBox (w.setCell ⟨z, 2, none⟩ u) z v0 v1 u v3 v4 := h.set 2 u
theorem DBox.s3 {w : World} {z : Nat} {v0 v1 v2 v3 v4 : Value} (h : DBox w z v0 v1 v2 v3 v4) (u : Value) : DBox (w.setCell ⟨z, 3, none⟩ u) z v0 v1 v2 u v4 := h.set 3 u
theorem DBox.s4 {w : World} {z : Nat} {v0 v1 v2 v3 v4 : Value} (h : DBox w z v0 v1 v2 v3 v4) (u : Value) : DBox (w.setCell ⟨z, 4, none⟩ u) z v0 v1 v2 v3 u := h.set 4 u
theorem DBox.other {w : World} {z : Nat} {v0 v1 v2 v3 v4 : Value} (h : DBox w z v0 v1 v2 v3 v4) {g o : Nat} (hg : g ≠ z) (u : Value) : DBox (w.setCell ⟨g, o, none⟩ u) z v0 v1 v2 v3 v4 :=
  (Below.heap_setCell w ⟨g, o, none⟩ u z (fun e => hg (by have e' : z = g := e; omega))).trans h
/-- The word that stands there is written there. -/
theorem OwnW.same {w : World} {lo c g k : Nat} {a : Option Addr} {l : List ByteArray} {x : ByteArray} (h : OwnW w lo a c l) (ha : a = some ⟨g, 0, none⟩) (hx : l[k]? = some x) : OwnW (w.setCell ⟨g, k, none⟩ (.string x)) lo a c l := by
  refine ⟨h.le, h.cap, ?_⟩
  rcases h.row with h | ⟨g', cur, h1, h2, h3, h4, h5⟩
  · exact .inl h
  · rw [ha] at h1
    cases h1
    refine .inr ⟨g, _, ha, h2, block_setCell h3 _, by simpa using h4, fun i y hy => ?_⟩
    by_cases e : k = i
    · subst e
      have e2 := h5 k y hy
      rw [hx] at hy
      cases hy
      rw [Array.getElem?_setIfInBounds_self_of_lt (Array.getElem?_eq_some_iff.1 e2).1]
    · rw [Array.getElem?_setIfInBounds_ne e]
      exact h5 i y hy
/-- Its block lies under s, if it has one. -/
def Und (a : Option Addr) (c s : Nat) : Prop := c = 0 ∨ ∃ g, a = some ⟨g, 0, none⟩ ∧ g < s
theorem OwnS.und {w : World} {lo c : Nat} {a : Option Addr} {l : List Sp} (h : OwnS w lo a c l) : Und a c w.heap.size := by
  rcases h.row with ⟨h, -⟩ | ⟨g, cur, h1, h2, h3, -⟩
  · exact .inl h
  · exact .inr ⟨g, h1, (Array.getElem?_eq_some_iff.1 h3).1⟩
/-- Data of one's own: five lists, each in a block of its own. -/
structure OwnD (w : World) (lo : Nat) (a0 : Option Addr) (c0 : Nat) (a1 : Option Addr) (c1 : Nat) (a2 : Option Addr) (c2 : Nat) (a3 : Option Addr) (c3 : Nat) (a4 : Option Addr) (c4 : Nat) (ws : List ByteArray) (ms : List Mg) (A B C : List Sp) : Prop where
  words : OwnW w lo a0 c0 ws
  merges : OwnM w lo a1 c1 ms
  spans : ∃ s3 s4, lo ≤ s3 ∧ s3 ≤ s4 ∧ OwnS w lo a2 c2 A ∧ Und a2 c2 s3 ∧ OwnS w s3 a3 c3 B ∧ Und a3 c3 s4 ∧ OwnS w s4 a4 c4 C
theorem OwnD.below {w w' : World} {lo : Nat} {a0 : Option Addr} {c0 : Nat} {a1 : Option Addr} {c1 : Nat} {a2 : Option Addr} {c2 : Nat} {a3 : Option Addr} {c3 : Nat} {a4 : Option Addr} {c4 : Nat} {ws : List ByteArray} {ms : List Mg} {A B C : List Sp} (h : OwnD w lo a0 c0 a1 c1 a2 c2 a3 c3 a4 c4 ws ms A B C) (hb : Below w.heap.size w w') : OwnD w' lo a0 c0 a1 c1 a2 c2 a3 c3 a4 c4 ws ms A B C := by
  obtain ⟨h1, h2, s3, s4, e1, e2, p1, p2, p3, p4, p5⟩ := h
  exact ⟨h1.below hb, h2.below hb, s3, s4, e1, e2, p1.below hb, p2, p3.below hb, p4, p5.below hb⟩
theorem OwnD.low {w : World} {lo lo' : Nat} {a0 : Option Addr} {c0 : Nat} {a1 : Option Addr} {c1 : Nat} {a2 : Option Addr} {c2 : Nat} {a3 : Option Addr} {c3 : Nat} {a4 : Option Addr} {c4 : Nat} {ws : List ByteArray} {ms : List Mg} {A B C : List Sp} (h : OwnD w lo a0 c0 a1 c1 a2 c2 a3 c3 a4 c4 ws ms A B C) (hl : lo' ≤ lo) : OwnD w lo' a0 c0 a1 c1 a2 c2 a3 c3 a4 c4 ws ms A B C := by
  obtain ⟨h1, h2, s3, s4, e1, e2, p1, p2, p3, p4, p5⟩ := h
  exact ⟨h1.low hl, h2.low hl, s3, s4, by omega, e2, p1.low hl, p2, p3, p4, p5⟩
theorem OwnD.away {w : World} {lo : Nat} {a0 : Option Addr} {c0 : Nat} {a1 : Option Addr} {c1 : Nat} {a2 : Option Addr} {c2 : Nat} {a3 : Option Addr} {c3 : Nat} {a4 : Option Addr} {c4 : Nat} {ws : List ByteArray} {ms : List Mg} {A B C : List Sp} (h : OwnD w lo a0 c0 a1 c1 a2 c2 a3 c3 a4 c4 ws ms A B C) {b o : Nat} (hb : b < lo) (v : Value) : OwnD (w.setCell ⟨b, o, none⟩ v) lo a0 c0 a1 c1 a2 c2 a3 c3 a4 c4 ws ms A B C := by
  obtain ⟨h1, h2, s3, s4, e1, e2, p1, p2, p3, p4, p5⟩ := h
  exact ⟨h1.away hb v, h2.away hb v, s3, s4, e1, e2, p1.away hb v, p2, p3.away (by omega) v, p4, p5.away (by omega) v⟩
set_option maxRecDepth 100000 in
set_option maxHeartbeats 4000000 in
theorem copied_any (aw am a b c : Option Addr) (cw cm ca cb cc : Nat) (ws : List ByteArray) (ms : List Mg) (A B C : List Sp) (w : World) (hn : ws.length ≤ 8796093022208) (hm : ms.length ≤ 5864062014805) (hA : A.length ≤ 17592186044416) (hB : B.length ≤ 17592186044416) (hC : C.length ≤ 17592186044416) (hz6 : ∀ (i : Nat) (x : ByteArray), ws[i]? = some x → x.size ≤ 256)
    (h0 : WSP w aw ws) (h1 : MSP w am ms) (h2 : SPS w a A) (h3 : SPS w b B) (h4 : SPS w c C) :
    Calls Tryd.prog 44 #[.agg #[.slice aw ws.length cw, .slice am ms.length cm, .slice a A.length ca, .slice b B.length cb, .slice c C.length cc]] w fun e w' => ∃ a0 c0 a1 c1 a2 c2 a3 c3 a4 c4, e = .returned (.agg #[.slice a0 ws.length c0, .slice a1 ms.length c1, .slice a2 A.length c2, .slice a3 B.length c3, .slice a4 C.length c4]) ∧ OwnD w' w.heap.size a0 c0 a1 c1 a2 c2 a3 c3 a4 c4 ws ms A B C ∧ Below w.heap.size w w' := by
  have hD := DBox.new w (.slice aw ws.length cw) (.slice am ms.length cm) (.slice a A.length ca) (.slice b B.length cb) (.slice c C.length cc)
  have hb := box_below w (.cells #[.slice aw ws.length cw, .slice am ms.length cm, .slice a A.length ca, .slice b B.length cb, .slice c C.length cc] 30)
  have hR := DBox.new (w.alloc (.cells #[.slice aw ws.length cw, .slice am ms.length cm, .slice a A.length ca, .slice b B.length cb, .slice c C.length cc] 30)) (.slice none 0 0) (.slice none 0 0) (.slice none 0 0) (.slice none 0 0) (.slice none 0 0)
  have hb2 := hb.alloc hb.size (.cells #[.slice none 0 0, .slice none 0 0, .slice none 0 0, .slice none 0 0, .slice none 0 0] 30)
  have hD2 := hD.below (box_below (w.alloc (.cells #[.slice aw ws.length cw, .slice am ms.length cm, .slice a A.length ca, .slice b B.length cb, .slice c C.length cc] 30)) (.cells #[.slice none 0 0, .slice none 0 0, .slice none 0 0, .slice none 0 0, .slice none 0 0] 30)) hD.lt
  have hsz : ((w.alloc (.cells #[.slice aw ws.length cw, .slice am ms.length cm, .slice a A.length ca, .slice b B.length cb, .slice c C.length cc] 30)).alloc (.cells #[.slice none 0 0, .slice none 0 0, .slice none 0 0, .slice none 0 0, .slice none 0 0] 30)).heap.size = w.heap.size + 1 + 1 := by simp
  rw [show (w.alloc (.cells #[.slice aw ws.length cw, .slice am ms.length cm, .slice a A.length ca, .slice b B.length cb, .slice c C.length cc] 30)).heap.size = w.heap.size + 1 by simp] at hR
  clear hD hb
  have d0 := hD2.c0
  go_enter Tryd.func44, Tryd.ntmps44
  go_wp2_with fail
  obtain ⟨Y, hY⟩ : ∃ Y, Y = ((w.alloc (.cells #[.slice aw ws.length cw, .slice am ms.length cm, .slice a A.length ca, .slice b B.length cb, .slice c C.length cc] 30)).alloc (.cells #[.slice none 0 0, .slice none 0 0, .slice none 0 0, .slice none 0 0, .slice none 0 0] 30)) := ⟨_, rfl⟩
  rw [← hY] at hb2 hD2 hR hsz d0 ⊢
  clear hY
  obtain ⟨z, hz⟩ : ∃ z, z = w.heap.size := ⟨_, rfl⟩
  have HZ : Hid (z = w.heap.size) := hz
  rw [← hz] at hD2 hR hsz d0 ⊢
  clear hz d0
  refine (cloneW_any aw cw ws Y hn (h0.below hb2)).mono ?_
  rintro e w1 ⟨a0, c0, rfl, hO, hb1⟩
  have hD1 := hD2.below hb1 (by omega)
  have hR1 := hR.below hb1 (by omega)
  have d0 := hD1.c0
  have f0 := fun j => unfrozen_of_block hD1 j
  have HD1 : Hid (DBox w1 z (.slice aw ws.length cw) (.slice am ms.length cm) (.slice a A.length ca) (.slice b B.length cb) (.slice c C.length cc)) := hD1
  have HR1 : Hid (DBox w1 (z + 1) (.slice none 0 0) (.slice none 0 0) (.slice none 0 0) (.slice none 0 0) (.slice none 0 0)) := hR1
  have hB1 := hb2.trans (hb1.mono hb2.size)
  have hs1 := hb1.size
  clear hD2 hR hb1 hb2 hD1 hR1
  have ds := (HD1.out.s0 (.slice a0 ws.length c0)).c0
  go_wp2_with fail
  obtain ⟨V, hV⟩ : ∃ V, V = w1.setCell ⟨z, 0, none⟩ (.slice a0 ws.length c0) := ⟨_, rfl⟩
  have hDV := HD1.out.s0 (.slice a0 ws.length c0)
  have hRV := HR1.out.other (g := z) (o := 0) (by omega) (.slice a0 ws.length c0)
  have hOV := (hO.low (lo' := z + 1 + 1) (by omega)).away (b := z) (o := 0) (by omega) (.slice a0 ws.length c0)
  have hBV := hB1.setCell (p := ⟨z, 0, none⟩) (by have := HZ.out; show w.heap.size ≤ z; omega) (.slice a0 ws.length c0)
  have hsV : z + 1 + 1 ≤ V.heap.size := by rw [hV]; simp; omega
  rw [← hV] at hDV hRV hOV hBV ⊢
  clear hV HD1 HR1 hO hB1 hs1 d0 f0 ds
  go_loopw [12] (fun i wr => ∃ k : Nat, k ≤ ws.length ∧ i = .int .i64 k ∧ DBox wr z (.slice a0 ws.length c0) (.slice am ms.length cm) (.slice a A.length ca) (.slice b B.length cb) (.slice c C.length cc) ∧ DBox wr (z + 1) (.slice none 0 0) (.slice none 0 0) (.slice none 0 0) (.slice none 0 0) (.slice none 0 0) ∧ OwnW wr (z + 1 + 1) a0 c0 ws ∧ Below w.heap.size w wr ∧ z + 1 + 1 ≤ wr.heap.size) (fun i _ => ws.length - (intOf i).toNat)
  case atStart => exact ⟨0, Nat.zero_le _, rfl, hDV, hRV, hOV, hBV, hsV⟩
  case round =>
    clear hDV hRV hOV hBV hsV
    obtain ⟨k, hk, rfl, hD, hR, hO, hB', hs⟩ := hrel
    by_cases hlt : k < ws.length
    · obtain ⟨x, hx⟩ : ∃ x, ws[k]? = some x := ⟨_, List.getElem?_eq_getElem hlt⟩
      have HX : Hid (ws[k]? = some x) := hx
      have hx6 := hz6 k x hx
      rcases hO.row with ⟨-, h⟩ | ⟨g, cur, ha, hg, hc, hcs, hel⟩
      · rw [h] at hx; simp at hx
      · have e0 := hel k x hx
        have HG : Hid (wr.heap[g]? = some (.cells cur 9 (0, 0))) := hc
        have HE0 : Hid (cur[k]? = some (.string x)) := e0
        have HO : Hid (OwnW wr (z + 1 + 1) a0 c0 ws) := hO
        have HA : Hid (a0 = some ⟨g, 0, none⟩) := ha
        have HDd : Hid (DBox wr z (.slice a0 ws.length c0) (.slice am ms.length cm) (.slice a A.length ca) (.slice b B.length cb) (.slice c C.length cc)) := hD
        have HRr : Hid (DBox wr (z + 1) (.slice none 0 0) (.slice none 0 0) (.slice none 0 0) (.slice none 0 0) (.slice none 0 0)) := hR
        have q0 := cell_of_block hc k
        rw [e0] at q0
        have d0 := hD.c0
        have HC := fun wx => sclone_any x wx (by omega)
        clear hx hel hc hO hD hR e0 hcs
        subst ha
        go_wp2_with fail
        have k0 := cell_regrown (w := wr) d0
        clear d0 q0
        refine wp_region_quiet_tail (C := fun w' => ∃ p : Regrown, w' = grow (redrawn wr p.d) p.os) 5 (by kernel_rfl) (by kernel_rfl) ⟨⟨_, #[]⟩, by rw [grow_empty]; rfl⟩ ?_
        simp only [List.take_succ_cons, List.take_zero, List.drop_succ_cons, List.drop_zero]
        repeat (go_big_quiet_step ((go_at_call 63; exact Calls.regrown_of (HC _))))
        refine wpQuiet_nil ?_
        intro W5 hw'
        have hb5 : Below wr.heap.size wr W5 := by
          obtain ⟨⟨dq, osq⟩, rfl⟩ := hw'
          exact below_regrown _ _ _
        have hG5 := (hb5.block g (Array.getElem?_eq_some_iff.1 HG.out).1).trans HG.out
        have q0 := cell_of_block hG5 k
        rw [HE0.out] at q0
        have f0 := fun j => unfrozen_of_block hG5 j
        clear k0 hw' HC hG5
        go_wp2_with fail
        go_roundw
        case measure => simp only [intOf]; omega
        case rel => exact ⟨k + 1, by omega, by go_num, ((HDd.out.below hb5 (by omega)).other (by omega) _), ((HRr.out.below hb5 (by omega)).other (by omega) _), (HO.out.below hb5).same rfl HX.out, (hB'.trans (hb5.mono hB'.size)).setCell (p := ⟨g, k, none⟩) (by have := HZ.out; show w.heap.size ≤ g; omega) _, by simp; have := hb5.size; omega⟩
    · have hkn : k = ws.length := by omega
      subst hkn
      have d1 := hD.c1
      have HD0 : Hid (DBox wr z (.slice a0 ws.length c0) (.slice am ms.length cm) (.slice a A.length ca) (.slice b B.length cb) (.slice c C.length cc)) := hD
      have HR0 : Hid (DBox wr (z + 1) (.slice none 0 0) (.slice none 0 0) (.slice none 0 0) (.slice none 0 0) (.slice none 0 0)) := hR
      have hB0 := hB'
      have p0 := hO
      clear hD hR hB' hO
      go_wp2_with fail
      clear d1
      refine (cloneM_any am cm ms wr hm (h1.below hB0)).mono ?_
      rintro e x1 ⟨a1, c1, rfl, q1, hb1⟩
      have hD1 := HD0.out.below hb1 (by omega)
      have hR1 := HR0.out.below hb1 (by omega)
      have d0 := hD1.c1
      have f0 := fun j => unfrozen_of_block hD1 j
      have hT1 := hD1.s1 (.slice a1 ms.length c1)
      have hS1 := hR1.other (g := z) (o := 1) (by omega) (.slice a1 ms.length c1)
      have hB1 := (hB0.trans (hb1.mono hB0.size)).setCell (p := ⟨z, 1, none⟩) (by have := HZ.out; show w.heap.size ≤ z; omega) (.slice a1 ms.length c1)
      have hsz1 := hb1.size
      have p0 := (p0.below hb1).away (b := z) (o := 1) (by omega) (.slice a1 ms.length c1)
      have p1 := (q1.low (lo' := z + 1 + 1) (by omega)).away (b := z) (o := 1) (by omega) (.slice a1 ms.length c1)
      have ds := hT1.c2
      have HT1 : Hid (DBox (x1.setCell ⟨z, 1, none⟩ (.slice a1 ms.length c1)) z (.slice a0 ws.length c0) (.slice a1 ms.length c1) (.slice a A.length ca) (.slice b B.length cb) (.slice c C.length cc)) := hT1
      have HS1 : Hid (DBox (x1.setCell ⟨z, 1, none⟩ (.slice a1 ms.length c1)) (z + 1) (.slice none 0 0) (.slice none 0 0) (.slice none 0 0) (.slice none 0 0) (.slice none 0 0)) := hS1
      have hv1 : z + 1 + 1 ≤ (x1.setCell ⟨z, 1, none⟩ (.slice a1 ms.length c1)).heap.size ∧ wr.heap.size ≤ (x1.setCell ⟨z, 1, none⟩ (.slice a1 ms.length c1)).heap.size := by simp; omega
      clear hD1 hR1 hT1 hS1 HD0 HR0 hb1 hB0 q1 hsz1
      go_wp2_with fail
      clear d0 f0 ds
      obtain ⟨V1, hV1⟩ : ∃ V, V = x1.setCell ⟨z, 1, none⟩ (.slice a1 ms.length c1) := ⟨_, rfl⟩
      rw [← hV1] at HT1 HS1 hB1 hv1 p0 p1 ⊢
      have HD1 := HT1
      have HR1 := HS1
      clear hV1 HT1 HS1
      obtain ⟨hs1, hg1⟩ := hv1
      refine (cloneS_any a ca A V1 hA (h2.below hB1)).mono ?_
      rintro e x2 ⟨a2, c2, rfl, q2, hb2⟩
      have hD2 := HD1.out.below hb2 (by omega)
      have hR2 := HR1.out.below hb2 (by omega)
      have d0 := hD2.c2
      have f0 := fun j => unfrozen_of_block hD2 j
      have hT2 := hD2.s2 (.slice a2 A.length c2)
      have hS2 := hR2.other (g := z) (o := 2) (by omega) (.slice a2 A.length c2)
      have hB2 := (hB1.trans (hb2.mono hB1.size)).setCell (p := ⟨z, 2, none⟩) (by have := HZ.out; show w.heap.size ≤ z; omega) (.slice a2 A.length c2)
      have hsz2 := hb2.size
      have p0 := (p0.below hb2).away (b := z) (o := 2) (by omega) (.slice a2 A.length c2)
      have p1 := (p1.below hb2).away (b := z) (o := 2) (by omega) (.slice a2 A.length c2)
      have p2 := (q2.low (lo' := z + 1 + 1) (by omega)).away (b := z) (o := 2) (by omega) (.slice a2 A.length c2)
      have ds := hT2.c3
      have HT2 : Hid (DBox (x2.setCell ⟨z, 2, none⟩ (.slice a2 A.length c2)) z (.slice a0 ws.length c0) (.slice a1 ms.length c1) (.slice a2 A.length c2) (.slice b B.length cb) (.slice c C.length cc)) := hT2
      have HS2 : Hid (DBox (x2.setCell ⟨z, 2, none⟩ (.slice a2 A.length c2)) (z + 1) (.slice none 0 0) (.slice none 0 0) (.slice none 0 0) (.slice none 0 0) (.slice none 0 0)) := hS2
      have hv2 : z + 1 + 1 ≤ (x2.setCell ⟨z, 2, none⟩ (.slice a2 A.length c2)).heap.size ∧ V1.heap.size ≤ (x2.setCell ⟨z, 2, none⟩ (.slice a2 A.length c2)).heap.size := by simp; omega
      clear hD2 hR2 hT2 hS2 HD1 HR1 hb2 hB1 q2 hsz2
      go_wp2_with fail
      clear d0 f0 ds
      obtain ⟨V2, hV2⟩ : ∃ V, V = x2.setCell ⟨z, 2, none⟩ (.slice a2 A.length c2) := ⟨_, rfl⟩
      rw [← hV2] at HT2 HS2 hB2 hv2 p0 p1 p2 ⊢
      have HD2 := HT2
      have HR2 := HS2
      clear hV2 HT2 HS2
      obtain ⟨hs2, hg2⟩ := hv2
      have u2 := p2.und
      refine (cloneS_any b cb B V2 hB (h3.below hB2)).mono ?_
      rintro e x3 ⟨a3, c3, rfl, q3, hb3⟩
      have hD3 := HD2.out.below hb3 (by omega)
      have hR3 := HR2.out.below hb3 (by omega)
      have d0 := hD3.c3
      have f0 := fun j => unfrozen_of_block hD3 j
      have hT3 := hD3.s3 (.slice a3 B.length c3)
      have hS3 := hR3.other (g := z) (o := 3) (by omega) (.slice a3 B.length c3)
      have hB3 := (hB2.trans (hb3.mono hB2.size)).setCell (p := ⟨z, 3, none⟩) (by have := HZ.out; show w.heap.size ≤ z; omega) (.slice a3 B.length c3)
      have hsz3 := hb3.size
      have p0 := (p0.below hb3).away (b := z) (o := 3) (by omega) (.slice a3 B.length c3)
      have p1 := (p1.below hb3).away (b := z) (o := 3) (by omega) (.slice a3 B.length c3)
      have p2 := (p2.below hb3).away (b := z) (o := 3) (by omega) (.slice a3 B.length c3)
      have p3 := (q3.low (lo' := V2.heap.size) (by omega)).away (b := z) (o := 3) (by omega) (.slice a3 B.length c3)
      have ds := hT3.c4
      have HT3 : Hid (DBox (x3.setCell ⟨z, 3, none⟩ (.slice a3 B.length c3)) z (.slice a0 ws.length c0) (.slice a1 ms.length c1) (.slice a2 A.length c2) (.slice a3 B.length c3) (.slice c C.length cc)) := hT3
      have HS3 : Hid (DBox (x3.setCell ⟨z, 3, none⟩ (.slice a3 B.length c3)) (z + 1) (.slice none 0 0) (.slice none 0 0) (.slice none 0 0) (.slice none 0 0) (.slice none 0 0)) := hS3
      have hv3 : z + 1 + 1 ≤ (x3.setCell ⟨z, 3, none⟩ (.slice a3 B.length c3)).heap.size ∧ V2.heap.size ≤ (x3.setCell ⟨z, 3, none⟩ (.slice a3 B.length c3)).heap.size := by simp; omega
      clear hD3 hR3 hT3 hS3 HD2 HR2 hb3 hB2 q3 hsz3
      go_wp2_with fail
      clear d0 f0 ds
      obtain ⟨V3, hV3⟩ : ∃ V, V = x3.setCell ⟨z, 3, none⟩ (.slice a3 B.length c3) := ⟨_, rfl⟩
      rw [← hV3] at HT3 HS3 hB3 hv3 p0 p1 p2 p3 ⊢
      have HD3 := HT3
      have HR3 := HS3
      clear hV3 HT3 HS3
      obtain ⟨hs3, hg3⟩ := hv3
      have u3 := p3.und
      refine (cloneS_any c cc C V3 hC (h4.below hB3)).mono ?_
      rintro e x4 ⟨a4, c4, rfl, q4, hb4⟩
      have hD4 := HD3.out.below hb4 (by omega)
      have hR4 := HR3.out.below hb4 (by omega)
      have d0 := hD4.c4
      have f0 := fun j => unfrozen_of_block hD4 j
      have hT4 := hD4.s4 (.slice a4 C.length c4)
      have hS4 := hR4.other (g := z) (o := 4) (by omega) (.slice a4 C.length c4)
      have hB4 := (hB3.trans (hb4.mono hB3.size)).setCell (p := ⟨z, 4, none⟩) (by have := HZ.out; show w.heap.size ≤ z; omega) (.slice a4 C.length c4)
      have hsz4 := hb4.size
      have p0 := (p0.below hb4).away (b := z) (o := 4) (by omega) (.slice a4 C.length c4)
      have p1 := (p1.below hb4).away (b := z) (o := 4) (by omega) (.slice a4 C.length c4)
      have p2 := (p2.below hb4).away (b := z) (o := 4) (by omega) (.slice a4 C.length c4)
      have p3 := (p3.below hb4).away (b := z) (o := 4) (by omega) (.slice a4 C.length c4)
      have p4 := (q4.low (lo' := V3.heap.size) (by omega)).away (b := z) (o := 4) (by omega) (.slice a4 C.length c4)
      have ds0 := hT4.c0
      have ds1 := hT4.c1
      have ds2 := hT4.c2
      have ds3 := hT4.c3
      have ds4 := hT4.c4
      have r0 := hS4.c0
      have r1 := hS4.c1
      have r2 := hS4.c2
      have r3 := hS4.c3
      have r4 := hS4.c4
      have fr := fun j => unfrozen_of_block hS4 j
      have HT4 : Hid (DBox (x4.setCell ⟨z, 4, none⟩ (.slice a4 C.length c4)) z (.slice a0 ws.length c0) (.slice a1 ms.length c1) (.slice a2 A.length c2) (.slice a3 B.length c3) (.slice a4 C.length c4)) := hT4
      have HS4 : Hid (DBox (x4.setCell ⟨z, 4, none⟩ (.slice a4 C.length c4)) (z + 1) (.slice none 0 0) (.slice none 0 0) (.slice none 0 0) (.slice none 0 0) (.slice none 0 0)) := hS4
      have hv4 : z + 1 + 1 ≤ (x4.setCell ⟨z, 4, none⟩ (.slice a4 C.length c4)).heap.size ∧ V3.heap.size ≤ (x4.setCell ⟨z, 4, none⟩ (.slice a4 C.length c4)).heap.size := by simp; omega
      clear hD4 hR4 hT4 hS4 HD3 HR3 hb4 hB3 q4 hsz4
      go_wp2_with fail
      have e5 := (((((HS4.out.s0 (.slice a0 ws.length c0)).s1 (.slice a1 ms.length c1)).s2 (.slice a2 A.length c2)).s3 (.slice a3 B.length c3)).s4 (.slice a4 C.length c4))
      have hB5 := ((((hB4.setCell (p := ⟨z + 1, 0, none⟩) (by have := HZ.out; show w.heap.size ≤ z + 1; omega) (.slice a0 ws.length c0)).setCell (p := ⟨z + 1, 1, none⟩) (by have := HZ.out; show w.heap.size ≤ z + 1; omega) (.slice a1 ms.length c1)).setCell (p := ⟨z + 1, 2, none⟩) (by have := HZ.out; show w.heap.size ≤ z + 1; omega) (.slice a2 A.length c2)).setCell (p := ⟨z + 1, 3, none⟩) (by have := HZ.out; show w.heap.size ≤ z + 1; omega) (.slice a3 B.length c3)).setCell (p := ⟨z + 1, 4, none⟩) (by have := HZ.out; show w.heap.size ≤ z + 1; omega) (.slice a4 C.length c4)
      have p0 := p0.away (b := z + 1) (o := 0) (by omega) (.slice a0 ws.length c0)
      have p0 := p0.away (b := z + 1) (o := 1) (by omega) (.slice a1 ms.length c1)
      have p0 := p0.away (b := z + 1) (o := 2) (by omega) (.slice a2 A.length c2)
      have p0 := p0.away (b := z + 1) (o := 3) (by omega) (.slice a3 B.length c3)
      have p0 := p0.away (b := z + 1) (o := 4) (by omega) (.slice a4 C.length c4)
      have p1 := p1.away (b := z + 1) (o := 0) (by omega) (.slice a0 ws.length c0)
      have p1 := p1.away (b := z + 1) (o := 1) (by omega) (.slice a1 ms.length c1)
      have p1 := p1.away (b := z + 1) (o := 2) (by omega) (.slice a2 A.length c2)
      have p1 := p1.away (b := z + 1) (o := 3) (by omega) (.slice a3 B.length c3)
      have p1 := p1.away (b := z + 1) (o := 4) (by omega) (.slice a4 C.length c4)
      have p2 := p2.away (b := z + 1) (o := 0) (by omega) (.slice a0 ws.length c0)
      have p2 := p2.away (b := z + 1) (o := 1) (by omega) (.slice a1 ms.length c1)
      have p2 := p2.away (b := z + 1) (o := 2) (by omega) (.slice a2 A.length c2)
      have p2 := p2.away (b := z + 1) (o := 3) (by omega) (.slice a3 B.length c3)
      have p2 := p2.away (b := z + 1) (o := 4) (by omega) (.slice a4 C.length c4)
      have p3 := p3.away (b := z + 1) (o := 0) (by omega) (.slice a0 ws.length c0)
      have p3 := p3.away (b := z + 1) (o := 1) (by omega) (.slice a1 ms.length c1)
      have p3 := p3.away (b := z + 1) (o := 2) (by omega) (.slice a2 A.length c2)
      have p3 := p3.away (b := z + 1) (o := 3) (by omega) (.slice a3 B.length c3)
      have p3 := p3.away (b := z + 1) (o := 4) (by omega) (.slice a4 C.length c4)
      have p4 := p4.away (b := z + 1) (o := 0) (by omega) (.slice a0 ws.length c0)
      have p4 := p4.away (b := z + 1) (o := 1) (by omega) (.slice a1 ms.length c1)
      have p4 := p4.away (b := z + 1) (o := 2) (by omega) (.slice a2 A.length c2)
      have p4 := p4.away (b := z + 1) (o := 3) (by omega) (.slice a3 B.length c3)
      have p4 := p4.away (b := z + 1) (o := 4) (by omega) (.slice a4 C.length c4)
      clear d0 f0 ds0 ds1 ds2 ds3 ds4 r0 r1 r2 r3 r4 fr HT4 HS4 hB4
      obtain ⟨Wf, hWf⟩ : ∃ Wf, Wf = (((((x4.setCell ⟨z, 4, none⟩ (.slice a4 C.length c4)).setCell ⟨z + 1, 0, none⟩ (.slice a0 ws.length c0)).setCell ⟨z + 1, 1, none⟩ (.slice a1 ms.length c1)).setCell ⟨z + 1, 2, none⟩ (.slice a2 A.length c2)).setCell ⟨z + 1, 3, none⟩ (.slice a3 B.length c3)).setCell ⟨z + 1, 4, none⟩ (.slice a4 C.length c4) := ⟨_, rfl⟩
      rw [← hWf] at e5 hB5 p0 p1 p2 p3 p4 ⊢
      clear hWf
      have y0 := e5.c0
      have y1 := e5.c1
      have y2 := e5.c2
      have y3 := e5.c3
      have y4 := e5.c4
      have hlo : w.heap.size ≤ z + 1 + 1 := by have := HZ.out; omega
      exact bodyPost_ret (v := .agg #[.slice a0 ws.length c0, .slice a1 ms.length c1, .slice a2 A.length c2, .slice a3 B.length c3, .slice a4 C.length c4]) (by simp [results, Tryd.results44, go_sem, y0, y1, y2, y3, y4]) rfl ⟨_, _, _, _, _, _, _, _, _, _, rfl, ⟨p0.low hlo, p1.low hlo, V2.heap.size, V3.heap.size, by omega, by omega, p2.low hlo, u2, p3, u3, p4⟩, hB5⟩
end Go.Proofs.YtjbdhakogbolkaaDoor
end
