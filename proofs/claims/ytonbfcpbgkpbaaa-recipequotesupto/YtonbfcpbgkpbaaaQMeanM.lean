/- recipe's meaning: what is known of the merges' tokens; steps. -/
import Derived.Test.YtonbfcpbgkpbaaaQIdOf
namespace Go.Proofs.Ytonbfcpbgkpbaaa
open Go.RowKit Go.Sort Go.Joins
set_option linter.unusedVariables false
theorem wordW_len : ∀ (l : List UInt8) (k : Nat) (h : UInt8), (wordW k h l).2.2.length ≤ l.length := by
  intro l
  induction l with
  | nil => intro k h; rcases k with _ | _ | k <;> simp [wordW]
  | cons c l ih =>
    intro k h
    have hc : ∀ (x : UInt8) (R : Nat × Nat × List UInt8), R.2.2.length ≤ l.length → (wCons x R).2.2.length ≤ (c :: l).length := fun x R hR => by
      simp only [wCons, List.length_cons]; omega
    have hs : ∀ (R : Nat × Nat × List UInt8), R.2.2.length ≤ l.length → (wStep R).2.2.length ≤ (c :: l).length := fun R hR => by
      simp only [wStep, List.length_cons]; omega
    rcases k with _ | _ | k
    · unfold wordW
      split
      · simp
      · split
        · exact hs _ (ih _ _)
        · split
          · exact hc _ _ (ih _ _)
          · simp
    · unfold wordW
      split
      · exact hc _ _ (ih _ _)
      · split
        · exact hs _ (ih _ _)
        · simp
    · unfold wordW
      split
      · exact hc _ _ (ih _ _)
      · simp
theorem tokL_len (l : List UInt8) : (tokL l).2.2.length ≤ l.length := by
  have hb : ∀ k n, (bounded k n l).2.2.length ≤ l.length := fun k n => by unfold bounded; simp only [List.length_take]; omega
  cases l with
  | nil => simp [tokL]
  | cons c l' =>
    unfold tokL
    simp only
    split
    · show (wordT (wordW 0 0 l')).length ≤ _
      unfold wordT
      have := wordW_len l' 0 0
      split
      · simp only [List.length_cons]; omega
      · simp
    · repeat' split
      all_goals first | exact hb _ _ | (simp only [List.length_take, List.length_cons, List.length_nil]; omega)
theorem strm_len : ∀ (f : Nat) (l : List UInt8) (p : Nat), ∀ t ∈ strm f l p, t.s.length ≤ l.length := by
  intro f
  induction f with
  | zero => intro l p t ht; simp [strm] at ht
  | succ f ih =>
    intro l p t ht
    unfold strm at ht
    simp only at ht
    rcases List.mem_cons.1 ht with rfl | ht
    · have := tokL_len (l.drop (skipN false l))
      rw [List.length_drop] at this
      show (tokL (l.drop (skipN false l))).2.2.length ≤ _
      omega
    · split at ht
      · have := ih _ _ t ht
        rw [List.length_drop] at this
        omega
      · simp at ht
/-- No token's text is longer than n. -/
def Lens (n : Nat) (st : PS) : Prop := ∀ t ∈ st.2, t.s.length ≤ n
theorem Lens.take {n : Nat} {st : PS} (h : Lens n st) (m : Tok → Bool) : Lens n (takeP m st).2 ∧ (takeP m st).1.s.length ≤ n := by
  obtain ⟨bad, ts⟩ := st
  cases ts with
  | nil => cases bad <;> exact ⟨h, Nat.zero_le _⟩
  | cons t ts =>
    cases bad with
    | true => exact ⟨h, Nat.zero_le _⟩
    | false =>
      show Lens n (if m t = true then (t, (false, ts)) else (zeroT, (true, t :: ts))).2 ∧ (if m t = true then (t, (false, ts)) else (zeroT, (true, t :: ts))).1.s.length ≤ n
      by_cases hm : m t = true
      · rw [if_pos hm]
        exact ⟨fun x hx => h x (List.mem_cons_of_mem _ hx), h t (List.mem_cons_self ..)⟩
      · rw [if_neg hm]
        exact ⟨h, Nat.zero_le _⟩
theorem take_kindE (k : Nat) (st : PS) : (takeP (mEmpty k) st).1 = zeroT ∨ (takeP (mEmpty k) st).1.k = k := by
  obtain ⟨bad, ts⟩ := st
  cases ts with
  | nil => cases bad <;> exact .inl rfl
  | cons t ts =>
    cases bad with
    | true => exact .inl rfl
    | false =>
      show (if mEmpty k t = true then (t, (false, ts)) else (zeroT, (true, t :: ts))).1 = zeroT ∨ (if mEmpty k t = true then (t, (false, ts)) else (zeroT, (true, t :: ts))).1.k = k
      by_cases hm : mEmpty k t = true
      · rw [if_pos hm]
        exact .inr (by simpa [mEmpty] using hm)
      · rw [if_neg hm]
        exact .inl rfl
/-- A merge as it is written, whose tokens are right. -/
def WrOk (n : Nat) (x : Wr) : Prop := x.l.s.length ≤ n ∧ x.r.s.length ≤ n ∧ x.i.s.length ≤ 10 ∧ ∀ c ∈ x.i.s, capB c = true
/-- What is still to come is right. -/
def Fit (n : Nat) (st : PS) : Prop := Toks st ∧ Lens n st
theorem Fit.take {n : Nat} {st : PS} (h : Fit n st) (m : Tok → Bool) : Fit n (takeP m st).2 := ⟨(h.1.take m).1, (h.2.take m).1⟩
theorem Fit.merge {n : Nat} {st : PS} (h : Fit n st) : Fit n (mergeP st).2 ∧ WrOk n (mergeP st).1 := by
  have h1 := h.take (mEmpty 4)
  have h2 := h1.take (sgn sPlus)
  have h3 := h2.take (mEmpty 4)
  have h4 := h3.take (sgn sEq)
  have h5 := h4.take (mEmpty 2)
  refine ⟨h5, (h.2.take (mEmpty 4)).2, (h2.2.take (mEmpty 4)).2, ?_⟩
  have hk := (h4.1.take (mEmpty 2)).2
  rcases take_kindE 2 (takeP (sgn sEq) (takeP (mEmpty 4) (takeP (sgn sPlus) (takeP (mEmpty 4) st).2).2).2).2 with h0 | h0
  · show ((takeP (mEmpty 2) (takeP (sgn sEq) (takeP (mEmpty 4) (takeP (sgn sPlus) (takeP (mEmpty 4) st).2).2).2).2).1).s.length ≤ 10 ∧ _
    refine ⟨by rw [h0]; simp [zeroT], fun c hc => ?_⟩
    have hc : c ∈ ((takeP (mEmpty 2) (takeP (sgn sEq) (takeP (mEmpty 4) (takeP (sgn sPlus) (takeP (mEmpty 4) st).2).2).2).2).1).s := hc
    rw [h0] at hc
    simp [zeroT] at hc
  · exact hk.2 h0
theorem Fit.spanF {n : Nat} : ∀ (f : Nat) (st : PS), Fit n st → Fit n (Proofs.Ytonbfcpbgkpbaaa.spanF f st).2 := by
  intro f
  induction f with
  | zero => intro st h; exact h
  | succ f ih =>
    intro st h
    cases hm : meetP (mEmpty 3) st with
    | false => rw [spanF_no hm]; exact h
    | true =>
      rw [spanF_yes hm]
      refine ih _ ?_
      unfold spanP
      simp only
      split
      · exact ((h.take _).take _).take _
      · exact h.take _
theorem Fit.spans {n : Nat} {st : PS} (h : Fit n st) : Fit n (spansP st).2 := by
  unfold spansP
  exact (Fit.spanF _ _ (h.take _)).take _
theorem Fit.rules {n : Nat} : ∀ (f : Nat) (st : PS) (r : RD), Fit n st → (∀ x ∈ r.M, WrOk n x) → ∀ x ∈ (rulesF f st r).1.M, WrOk n x := by
  intro f
  induction f with
  | zero => intro st r h hr; exact hr
  | succ f ih =>
    intro st r h hr
    unfold rulesF
    split
    · have h1 := h.take nameM
      unfold ruleP
      simp only
      split
      · refine ih _ _ h1.merge.1 ?_
        intro x hx
        rcases List.mem_append.1 hx with hx | hx
        · exact hr x hx
        · rw [List.mem_singleton.1 hx]
          exact h1.merge.2
      · split
        · exact ih _ _ h1.spans hr
        · split
          · exact ih _ _ h1.spans hr
          · split
            · exact ih _ _ h1.spans hr
            · exact ih _ _ h1 hr
    · exact hr
theorem rules_fit (l : List UInt8) (hl : l.length ≤ 4194304) : ∀ x ∈ (rulesF (rest l 0).length (false, rest l 0) ⟨[], [], [], []⟩).1.M, WrOk 4194304 x := by
  refine Fit.rules _ _ _ ⟨fun t ht => strm_ok _ _ _ t ht, fun t ht => ?_⟩ (fun x hx => by cases hx)
  have ht : t ∈ strm (l.length + 1) (l.drop 0) 0 := ht
  have := strm_len _ _ _ t ht
  rw [List.drop_zero] at this
  omega
theorem digV_le {c : UInt8} (h : capB c = true) : digV c ≤ 15 := by
  unfold capB digitB at h
  unfold digV
  simp only [Bool.or_eq_true, Bool.and_eq_true, decide_eq_true_eq] at h
  split
  · omega
  · split <;> omega
theorem valF_le : ∀ (s : List UInt8) (n k : Nat), (∀ c ∈ s, capB c = true) → n + 1 ≤ 16 ^ k → valF 10 n s + 1 ≤ 16 ^ (k + s.length) := by
  intro s
  induction s with
  | nil => intro n k _ hn; simpa [valF] using hn
  | cons c s ih =>
    intro n k hc hn
    unfold valF
    have hd : digV c ≤ 15 := digV_le (hc c (List.mem_cons_self ..))
    have h1 : n * 10 + digV c + 1 ≤ 16 ^ (k + 1) := by
      rw [Nat.pow_succ]
      omega
    have := ih _ (k + 1) (fun x hx => hc x (List.mem_cons_of_mem _ hx)) h1
    rw [List.length_cons]
    rw [show k + (s.length + 1) = k + 1 + s.length by omega]
    exact this
theorem val_small {s : List UInt8} (h : s.length ≤ 10) (hc : ∀ c ∈ s, capB c = true) : valF 10 0 s ≤ 1099511627776 := by
  have h1 := valF_le s 0 0 hc (by decide)
  have h2 : (16 : Nat) ^ (0 + s.length) ≤ 16 ^ 10 := Nat.pow_le_pow_right (by omega) (by omega)
  have h3 : (16 : Nat) ^ 10 = 1099511627776 := by decide
  omega
end Go.Proofs.Ytonbfcpbgkpbaaa
