/- A chain of numbers in plain mathematics: who stands behind, ahead; what cutting out changes. -/
import Derived.WalkKit
namespace Go.Proofs.Ytlmbkhpbfmkmjaa.CH
set_option linter.unusedVariables false
/-- The first one from s on, among d numbers; else s + d. -/
def upG (inn : Nat → Bool) : Nat → Nat → Nat
  | 0, s => s
  | d + 1, s => if inn s then s else upG inn d (s + 1)
/-- The last one below k; else n. -/
def dnG (inn : Nat → Bool) (n : Nat) : Nat → Nat
  | 0 => n
  | k + 1 => if inn k then k else dnG inn n k
/-- Who stands behind i; n is the knot. -/
def nxF (inn : Nat → Bool) (n i : Nat) : Nat := if i = n then upG inn n 0 else upG inn (n - (i + 1)) (i + 1)
/-- i is cut out. -/
def cutP (inn : Nat → Bool) (k : Nat) : Nat → Bool := fun m => if m = k then false else inn m
theorem up_spec (inn : Nat → Bool) : ∀ d s, s ≤ upG inn d s ∧ upG inn d s ≤ s + d ∧ (upG inn d s < s + d → inn (upG inn d s) = true) ∧ ∀ m, s ≤ m → m < upG inn d s → inn m = false
  | 0, s => ⟨Nat.le_refl _, Nat.le_refl _, fun h => absurd h (by simp [upG]), fun m h1 h2 => by simp [upG] at h2; omega⟩
  | d + 1, s => by
    unfold upG
    by_cases h : inn s = true
    · rw [if_pos h]
      exact ⟨Nat.le_refl _, by omega, fun _ => h, fun m h1 h2 => by omega⟩
    · rw [if_neg h]
      obtain ⟨h1, h2, h3, h4⟩ := up_spec inn d (s + 1)
      refine ⟨by omega, by omega, fun hl => h3 (by omega), fun m hm1 hm2 => ?_⟩
      by_cases e : m = s
      · subst e; simpa using h
      · exact h4 m (by omega) hm2
theorem dn_spec (inn : Nat → Bool) (n : Nat) : ∀ k, (dnG inn n k = n ∧ ∀ m, m < k → inn m = false) ∨ (dnG inn n k < k ∧ inn (dnG inn n k) = true ∧ ∀ m, dnG inn n k < m → m < k → inn m = false)
  | 0 => .inl ⟨rfl, fun m h => by omega⟩
  | k + 1 => by
    unfold dnG
    by_cases h : inn k = true
    · rw [if_pos h]
      exact .inr ⟨by omega, h, fun m h1 h2 => by omega⟩
    · rw [if_neg h]
      have hk : inn k = false := by simpa using h
      rcases dn_spec inn n k with ⟨h1, h2⟩ | ⟨h1, h2, h3⟩
      · refine .inl ⟨h1, fun m hm => ?_⟩
        by_cases e : m = k
        · subst e; exact hk
        · exact h2 m (by omega)
      · refine .inr ⟨by omega, h2, fun m hm1 hm2 => ?_⟩
        by_cases e : m = k
        · subst e; exact hk
        · exact h3 m hm1 (by omega)
theorem up_uniq {inn : Nat → Bool} {d s j : Nat} (h1 : s ≤ j) (h2 : j ≤ s + d) (h3 : j < s + d → inn j = true) (h4 : ∀ m, s ≤ m → m < j → inn m = false) : upG inn d s = j := by
  obtain ⟨k1, k2, k3, k4⟩ := up_spec inn d s
  rcases Nat.lt_trichotomy (upG inn d s) j with h | h | h
  · have := k3 (by omega); rw [h4 _ k1 h] at this; cases this
  · exact h
  · have := h3 (by omega); rw [k4 _ h1 h] at this; cases this
theorem dn_uniq {inn : Nat → Bool} {n k j : Nat} (hk : k ≤ n) (h : (j = n ∧ ∀ m, m < k → inn m = false) ∨ (j < k ∧ inn j = true ∧ ∀ m, j < m → m < k → inn m = false)) : dnG inn n k = j := by
  rcases dn_spec inn n k with ⟨k1, k2⟩ | ⟨k1, k2, k3⟩ <;> rcases h with ⟨h1, h2⟩ | ⟨h1, h2, h3⟩
  · omega
  · rw [k2 _ h1] at h2; cases h2
  · rw [h2 _ k1] at k2; cases k2
  · rcases Nat.lt_trichotomy (dnG inn n k) j with h | h | h
    · rw [k3 _ h h1] at h2; cases h2
    · exact h
    · rw [h3 _ h k1] at k2; cases k2
theorem nx_le {inn : Nat → Bool} {n i : Nat} (hi : i ≤ n) : nxF inn n i ≤ n := by
  unfold nxF
  split
  · have := (up_spec inn n 0).2.1; omega
  · have := (up_spec inn (n - (i + 1)) (i + 1)).2.1; omega
theorem nx_in {inn : Nat → Bool} {n i : Nat} (hi : i ≤ n) (h : nxF inn n i < n) : inn (nxF inn n i) = true := by
  unfold nxF at h ⊢
  split at h <;> rename_i h0
  · rw [if_pos h0] 
    exact (up_spec inn n 0).2.2.1 (by omega)
  · rw [if_neg h0]
    exact (up_spec inn (n - (i + 1)) (i + 1)).2.2.1 (by omega)
theorem dn_le {inn : Nat → Bool} {n i : Nat} (hi : i ≤ n) : dnG inn n i ≤ n := by
  rcases dn_spec inn n i with ⟨h, _⟩ | ⟨h, _⟩ <;> omega
theorem dn_in {inn : Nat → Bool} {n i : Nat} (hi : i ≤ n) (h : dnG inn n i < n) : inn (dnG inn n i) = true := by
  rcases dn_spec inn n i with ⟨h1, _⟩ | ⟨_, h1, _⟩
  · omega
  · exact h1
/-- What stands behind k has k ahead of it. -/
theorem dn_nx {inn : Nat → Bool} {n k : Nat} (hk : k < n) (hin : inn k = true) : dnG inn n (nxF inn n k) = k := by
  obtain ⟨h1, h2, h3, h4⟩ := up_spec inn (n - (k + 1)) (k + 1)
  unfold nxF
  rw [if_neg (by omega)]
  exact dn_uniq (by omega) (.inr ⟨by omega, hin, fun m h5 h6 => h4 m (by omega) h6⟩)
theorem nx_dn {inn : Nat → Bool} {n k : Nat} (hk : k < n) (hin : inn k = true) : nxF inn n (dnG inn n k) = k := by
  unfold nxF
  rcases dn_spec inn n k with ⟨h1, h2⟩ | ⟨h1, h2, h3⟩
  · rw [if_pos h1]
    exact up_uniq (by omega) (by omega) (fun _ => hin) (fun m _ h => h2 m h)
  · rw [if_neg (by omega)]
    exact up_uniq (by omega) (by omega) (fun _ => hin) (fun m h4 h5 => h3 m (by omega) h5)
/-- The knot's neighbours, from the other side. -/
theorem nx_dn_knot {inn : Nat → Bool} {n : Nat} (h : dnG inn n n < n) : nxF inn n (dnG inn n n) = n := by
  unfold nxF
  rw [if_neg (by omega)]
  rcases dn_spec inn n n with ⟨h1, h2⟩ | ⟨h1, h2, h3⟩
  · omega
  · exact up_uniq (by omega) (by omega) (fun h => by omega) (fun m h4 h5 => h3 m (by omega) h5)
/-- Cutting k out: who has k behind gets who is behind k. -/
theorem nx_cut {inn : Nat → Bool} {n k i : Nat} (hk : k < n) (hin : inn k = true) (hi : i ≤ n) (hii : i = n ∨ inn i = true) (hik : i ≠ k) :
    nxF (cutP inn k) n i = if i = dnG inn n k then nxF inn n k else nxF inn n i := by
  have hA : ∀ s d, s + d = n → (∀ m, s ≤ m → m < k → inn m = false) → s ≤ k → upG (cutP inn k) d s = upG inn (n - (k + 1)) (k + 1) := by
    intro s d hsd h0 hsk
    obtain ⟨h1, h2, h3, h4⟩ := up_spec inn (n - (k + 1)) (k + 1)
    refine up_uniq (by omega) (by omega) (fun h => ?_) (fun m h5 h6 => ?_)
    · unfold cutP
      rw [if_neg (by omega)]
      exact h3 (by omega)
    · unfold cutP
      by_cases e : m = k
      · rw [if_pos e]
      · rw [if_neg e]
        by_cases e2 : m < k
        · exact h0 m h5 e2
        · exact h4 m (by omega) h6
  have hB : ∀ s d, s + d = n → upG inn d s ≠ k → upG (cutP inn k) d s = upG inn d s := by
    intro s d hsd hne
    obtain ⟨h1, h2, h3, h4⟩ := up_spec inn d s
    refine up_uniq h1 h2 (fun h => ?_) (fun m h5 h6 => ?_)
    · unfold cutP
      rw [if_neg hne]
      exact h3 h
    · unfold cutP
      split
      · rfl
      · exact h4 m h5 h6
  by_cases e : i = dnG inn n k
  · rw [if_pos e]
    rw [show nxF inn n k = upG inn (n - (k + 1)) (k + 1) by unfold nxF; rw [if_neg (by omega)]]
    unfold nxF
    rcases dn_spec inn n k with ⟨h1, h2⟩ | ⟨h1, h2, h3⟩
    · rw [if_pos (by omega)]
      exact hA 0 n (by omega) (fun m _ h => h2 m h) (by omega)
    · rw [if_neg (by omega)]
      exact hA _ _ (by omega) (fun m h4 h5 => h3 m (by omega) h5) (by omega)
  · rw [if_neg e]
    have hne : nxF inn n i ≠ k := by
      intro h
      refine e ?_
      symm
      unfold nxF at h
      split at h
      · rename_i hn
        obtain ⟨h1, h2, h3, h4⟩ := up_spec inn n 0
        rw [h] at h4
        exact dn_uniq (by omega) (.inl ⟨hn, fun m h => h4 m (by omega) h⟩)
      · rename_i hn
        obtain ⟨h1, h2, h3, h4⟩ := up_spec inn (n - (i + 1)) (i + 1)
        rw [h] at h4 h1
        exact dn_uniq (by omega) (.inr ⟨by omega, hii.resolve_left hn, fun m h5 h6 => h4 m (by omega) h6⟩)
    unfold nxF at hne ⊢
    split
    · rename_i hn
      rw [if_pos hn] at hne
      exact hB 0 n (by omega) hne
    · rename_i hn
      rw [if_neg hn] at hne
      exact hB _ _ (by omega) hne
theorem dn_cut {inn : Nat → Bool} {n k i : Nat} (hk : k < n) (hin : inn k = true) (hi : i ≤ n) (hii : i = n ∨ inn i = true) (hik : i ≠ k) :
    dnG (cutP inn k) n i = if i = nxF inn n k then dnG inn n k else dnG inn n i := by
  have hnx : nxF inn n k = upG inn (n - (k + 1)) (k + 1) := by unfold nxF; rw [if_neg (by omega)]
  obtain ⟨h1, h2, h3, h4⟩ := up_spec inn (n - (k + 1)) (k + 1)
  rw [← hnx] at h1 h2 h3 h4
  by_cases e : i = nxF inn n k
  · rw [if_pos e]
    refine dn_uniq hi ?_
    rcases dn_spec inn n k with ⟨k1, k2⟩ | ⟨k1, k2, k3⟩
    · refine .inl ⟨k1, fun m hm => ?_⟩
      unfold cutP
      split
      · rfl
      · by_cases e2 : m < k
        · exact k2 m e2
        · exact h4 m (by omega) (by omega)
    · refine .inr ⟨by omega, ?_, fun m hm1 hm2 => ?_⟩
      · unfold cutP
        rw [if_neg (by omega)]
        exact k2
      · unfold cutP
        split
        · rfl
        · by_cases e2 : m < k
          · exact k3 m hm1 e2
          · exact h4 m (by omega) (by omega)
  · rw [if_neg e]
    have hne : dnG inn n i ≠ k := by
      intro h
      refine e ?_
      rcases dn_spec inn n i with ⟨k1, k2⟩ | ⟨k1, k2, k3⟩
      · omega
      · rw [h] at k1 k3
        symm
        rw [hnx]
        refine up_uniq (by omega) (by omega) (fun hl => ?_) (fun m h5 h6 => k3 m (by omega) h6)
        rcases hii with hii | hii
        · omega
        · exact hii
    refine dn_uniq hi ?_
    rcases dn_spec inn n i with ⟨k1, k2⟩ | ⟨k1, k2, k3⟩
    · refine .inl ⟨k1, fun m hm => ?_⟩
      unfold cutP
      split
      · rfl
      · exact k2 m hm
    · refine .inr ⟨k1, ?_, fun m hm1 hm2 => ?_⟩
      · unfold cutP
        rw [if_neg hne]
        exact k2
      · unfold cutP
        split
        · rfl
        · exact k3 m hm1 hm2
/-- All that stand, rising, from s on. -/
def allG (inn : Nat → Bool) : Nat → Nat → List Nat
  | 0, _ => []
  | d + 1, s => if inn s then s :: allG inn d (s + 1) else allG inn d (s + 1)
theorem all_up (inn : Nat → Bool) : ∀ d s, allG inn d s = if upG inn d s < s + d then upG inn d s :: allG inn (s + d - (upG inn d s + 1)) (upG inn d s + 1) else []
  | 0, s => by simp [allG, upG]
  | d + 1, s => by
    rw [show allG inn (d + 1) s = if inn s then s :: allG inn d (s + 1) else allG inn d (s + 1) from rfl, show upG inn (d + 1) s = if inn s then s else upG inn d (s + 1) from rfl]
    by_cases h : inn s = true
    · rw [if_pos h, if_pos h, if_pos (by omega), show s + (d + 1) - (s + 1) = d by omega]
    · rw [if_neg h, if_neg h, all_up inn d (s + 1), show s + 1 + d = s + (d + 1) by omega]
theorem all_mem {inn : Nat → Bool} : ∀ {d s m : Nat}, m ∈ allG inn d s → s ≤ m ∧ m < s + d ∧ inn m = true
  | 0, s, m, h => by simp [allG] at h
  | d + 1, s, m, h => by
    unfold allG at h
    split at h
    · rename_i hs
      rcases List.mem_cons.1 h with rfl | h
      · exact ⟨by omega, by omega, hs⟩
      · obtain ⟨h1, h2, h3⟩ := all_mem h
        exact ⟨by omega, by omega, h3⟩
    · obtain ⟨h1, h2, h3⟩ := all_mem h
      exact ⟨by omega, by omega, h3⟩
theorem all_len (inn : Nat → Bool) : ∀ d s, (allG inn d s).length ≤ d
  | 0, s => by simp [allG]
  | d + 1, s => by
    unfold allG
    have := all_len inn d (s + 1)
    split
    · simp; omega
    · omega
/-- The last one of a list, as a number; -1 of none. -/
def lastI : List Nat → Int
  | [] => -1
  | [x] => x
  | _ :: y :: l => lastI (y :: l)
theorem lastI_snoc (l : List Nat) (x : Nat) : lastI (l ++ [x]) = x := by
  induction l with
  | nil => rfl
  | cons a l ih =>
    cases l with
    | nil => rfl
    | cons b l => exact ih
theorem all_rise {inn : Nat → Bool} : ∀ {d s : Nat} {p : List Nat} {x : Nat}, (p ++ [x]) <+: allG inn d s → lastI p < (x : Int) ∧ (p ≠ [] → (s : Int) ≤ lastI p)
  | 0, s, p, x, h => by simp [allG] at h
  | d + 1, s, p, x, h => by
    unfold allG at h
    split at h
    · cases p with
      | nil => exact ⟨by unfold lastI; omega, fun h => absurd rfl h⟩
      | cons a p =>
        obtain ⟨rfl, h2⟩ := List.cons_prefix_cons.1 h
        have := all_rise h2
        cases p with
        | nil =>
          have hx := all_mem (h2.subset (by simp : x ∈ [] ++ [x]))
          exact ⟨by show (a : Int) < x; omega, fun _ => by show (a : Int) ≤ (a : Int); omega⟩
        | cons b p => exact ⟨this.1, fun _ => by have := this.2 (by simp); show (a : Int) ≤ lastI (b :: p); omega⟩
    · have := all_rise h
      exact ⟨this.1, fun hp => by have := this.2 hp; omega⟩
/-- How many of the first k stand. -/
def cntG (inn : Nat → Bool) : Nat → Nat
  | 0 => 0
  | k + 1 => cntG inn k + (if inn k then 1 else 0)
theorem all_snoc (inn : Nat → Bool) : ∀ d s, allG inn (d + 1) s = allG inn d s ++ (if inn (s + d) then [s + d] else [])
  | 0, s => by unfold allG; simp [allG]
  | d + 1, s => by
    rw [allG, all_snoc inn d (s + 1)]
    conv => rhs; rw [allG]
    rw [show s + 1 + d = s + (d + 1) by omega]
    split <;> simp
theorem all_cnt (inn : Nat → Bool) : ∀ n, (allG inn n 0).length = cntG inn n
  | 0 => rfl
  | n + 1 => by
    rw [all_snoc, List.length_append, all_cnt inn n, cntG, Nat.zero_add]
    split <;> rfl
theorem cnt_cut (inn : Nat → Bool) {k : Nat} (hin : inn k = true) : ∀ n, cntG (cutP inn k) n + (if k < n then 1 else 0) = cntG inn n
  | 0 => by simp [cntG]
  | n + 1 => by
    have ih := cnt_cut inn hin n
    simp only [cntG]
    rcases Nat.lt_trichotomy k n with h | h | h
    · rw [if_pos h] at ih
      have e : cutP inn k n = inn n := if_neg (by omega)
      rw [e, if_pos (by omega : k < n + 1)]
      omega
    · subst h
      rw [if_neg (by omega)] at ih
      have e : cutP inn k k = false := if_pos rfl
      rw [e, hin, if_pos (by omega : k < k + 1)]
      simp
      omega
    · rw [if_neg (by omega)] at ih
      have e : cutP inn k n = inn n := if_neg (by omega)
      rw [e, if_neg (by omega : ¬ k < n + 1)]
      omega
theorem cnt_all {n : Nat} : ∀ {k : Nat}, k ≤ n → cntG (fun m => decide (m < n)) k = k
  | 0, _ => rfl
  | k + 1, h => by
    unfold cntG
    rw [cnt_all (by omega)]
    simp
    omega
theorem up_all {inn : Nat → Bool} {d s : Nat} (h : inn s = true) : upG inn d s = s := by
  cases d with
  | zero => rfl
  | succ d => unfold upG; rw [if_pos h]
end Go.Proofs.Ytlmbkhpbfmkmjaa.CH
