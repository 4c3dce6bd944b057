/- Runs: what the code makes of kinds, and what the document's own does: the mathematics. -/
import Derived.Test.YtddeamecgbdajaaDoorCKiter
namespace Go.Proofs.YtddeamecgbdajaaDoor
/-- A run. -/
structure Rn where
  kd : Nat
  frm : Nat
  too : Nat
  n : Nat
/-- One item more: what was handed out, and the run under way. -/
def stp (st : List Rn × Rn) (x : Nat × Nat) : List Rn × Rn :=
  if x.2 = st.2.kd then (st.1, ⟨st.2.kd, st.2.frm, st.2.too, st.2.n + 1⟩)
  else if 0 < st.2.n then (st.1 ++ [⟨st.2.kd, st.2.frm, x.1, st.2.n⟩], ⟨x.2, x.1, 0, 1⟩) else (st.1, ⟨x.2, x.1, 0, 1⟩)
def stL (pre : List (Nat × Nat)) : List Rn × Rn := pre.foldl stp ([], ⟨0, 0, 0, 0⟩)
def finL (st : List Rn × Rn) (size : Nat) : List Rn := if 0 < st.2.n then st.1 ++ [⟨st.2.kd, st.2.frm, size, st.2.n⟩] else st.1
/-- The runs of kinds. -/
def runsL (K : List (Nat × Nat)) (size : Nat) : List Rn := finL (stL K) size
theorem stL_snoc (pre : List (Nat × Nat)) (x : Nat × Nat) : stL (pre ++ [x]) = stp (stL pre) x := by
  unfold stL
  rw [List.foldl_append]
  rfl
theorem stp_pre (st : List Rn × Rn) (x : Nat × Nat) : st.1 <+: (stp st x).1 := by
  unfold stp
  split
  · exact List.prefix_refl _
  · split
    · exact List.prefix_append _ _
    · exact List.prefix_refl _
theorem stF_pre (q : List (Nat × Nat)) (st : List Rn × Rn) : st.1 <+: (q.foldl stp st).1 := by
  induction q generalizing st with
  | nil => exact List.prefix_refl _
  | cons x q ih => rw [List.foldl_cons]; exact (stp_pre st x).trans (ih _)
theorem stL_pre {pre K : List (Nat × Nat)} (h : pre <+: K) (size : Nat) : (stL pre).1 <+: runsL K size := by
  obtain ⟨q, rfl⟩ := h
  have h1 : (stL pre).1 <+: (stL (pre ++ q)).1 := by
    unfold stL
    rw [List.foldl_append]
    exact stF_pre q _
  refine h1.trans ?_
  unfold runsL finL
  split
  · exact List.prefix_append _ _
  · exact List.prefix_refl _
theorem stF_too (q : List (Nat × Nat)) (st : List Rn × Rn) (h : st.2.too = 0) : (q.foldl stp st).2.too = 0 := by
  induction q generalizing st with
  | nil => exact h
  | cons x q ih =>
    rw [List.foldl_cons]
    refine ih _ ?_
    unfold stp
    split
    · exact h
    · split <;> rfl
theorem stL_too (pre : List (Nat × Nat)) : (stL pre).2.too = 0 := stF_too pre _ rfl
theorem stF_len (q : List (Nat × Nat)) (st : List Rn × Rn) : (q.foldl stp st).1.length ≤ st.1.length + q.length := by
  induction q generalizing st with
  | nil => exact Nat.le_refl _
  | cons x q ih =>
    rw [List.foldl_cons]
    refine Nat.le_trans (ih _) ?_
    unfold stp
    split
    · simp <;> omega
    · split
      · simp <;> omega
      · simp <;> omega
theorem stL_len (pre : List (Nat × Nat)) : (stL pre).1.length ≤ pre.length := by
  have := stF_len pre ([], ⟨0, 0, 0, 0⟩)
  simpa [stL] using this
theorem stF_n (q : List (Nat × Nat)) (st : List Rn × Rn) : (q.foldl stp st).2.n ≤ st.2.n + q.length := by
  induction q generalizing st with
  | nil => exact Nat.le_refl _
  | cons x q ih =>
    rw [List.foldl_cons]
    refine Nat.le_trans (ih _) ?_
    unfold stp
    split
    · simp <;> omega
    · split
      · simp <;> omega
      · simp <;> omega
theorem stL_n (pre : List (Nat × Nat)) : (stL pre).2.n ≤ pre.length := by
  have := stF_n pre ([], ⟨0, 0, 0, 0⟩)
  simpa [stL] using this
/-- What is handed out next lies in the whole. -/
theorem stL_out {pre K : List (Nat × Nat)} {x : Nat × Nat} (h : pre ++ [x] <+: K) (size : Nat) (hk : x.2 ≠ (stL pre).2.kd) (hn : 0 < (stL pre).2.n) : (stL pre).1 ++ [⟨(stL pre).2.kd, (stL pre).2.frm, x.1, (stL pre).2.n⟩] <+: runsL K size := by
  have h1 := stL_pre h size
  rw [stL_snoc] at h1
  unfold stp at h1
  rw [if_neg hk, if_pos hn] at h1
  exact h1
end Go.Proofs.YtddeamecgbdajaaDoor
