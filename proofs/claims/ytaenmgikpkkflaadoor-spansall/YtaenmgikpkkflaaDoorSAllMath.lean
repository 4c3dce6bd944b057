/- The runes of a list of spans, in their order: the mathematics. -/
import Derived.Test.YtaenmgikpkkflaaDoorSSizeMath
import Derived.Test.YtaenmgikpkkflaaDoorSIn
namespace Go.Proofs.YtaenmgikpkkflaaDoor
/-- The numbers from lo on, below m. -/
def upto (lo m : Int) : List Int := (List.range (m - lo).toNat).map fun (i : Nat) => lo + (i : Int)
theorem upto_nil {lo m : Int} (h : m ≤ lo) : upto lo m = [] := by
  unfold upto; rw [show (m - lo).toNat = 0 by omega]; rfl
theorem upto_succ {lo m : Int} (h : lo ≤ m) : upto lo (m + 1) = upto lo m ++ [m] := by
  unfold upto
  rw [show (m + 1 - lo).toNat = (m - lo).toNat + 1 by omega, List.range_succ, List.map_append, List.map_cons, List.map_nil, show lo + ((m - lo).toNat : Int) = m by omega]
theorem upto_length {lo m : Int} : (upto lo m).length = (m - lo).toNat := by simp [upto]
theorem upto_mem {lo m r : Int} : r ∈ upto lo m ↔ lo ≤ r ∧ r < m := by
  unfold upto
  simp only [List.mem_map, List.mem_range]
  constructor
  · rintro ⟨i, hi, rfl⟩; omega
  · rintro ⟨h1, h2⟩; exact ⟨(r - lo).toNat, by omega, by omega⟩
theorem upto_rise (lo m : Int) : (upto lo m).Pairwise (· < ·) := by
  unfold upto
  rw [List.pairwise_map]
  exact List.Pairwise.imp (fun h => by omega) List.pairwise_lt_range
theorem upto_pre {lo m m' : Int} (h : m ≤ m') : upto lo m <+: upto lo m' := by
  unfold upto
  refine List.IsPrefix.map _ ⟨(List.range ((m' - lo).toNat - (m - lo).toNat)).map ((m - lo).toNat + ·), ?_⟩
  rw [← List.range_add, show (m - lo).toNat + ((m' - lo).toNat - (m - lo).toNat) = (m' - lo).toNat by omega]
def rng (c : Sp) : List Int := upto c.lo (c.hi + 1)
/-- A span's runes. -/
def rns (x : Sp) : List Int := rng (comL x lowR) ++ rng (comL x highR)
def runesL (l : List Sp) : List Int := l.flatMap rns
def runesT (l : List Sp) (k : Nat) : List Int := runesL (l.take k)
theorem runesT_zero (l : List Sp) : runesT l 0 = [] := rfl
theorem runesT_succ {l : List Sp} {k : Nat} {x : Sp} (hx : l[k]? = some x) : runesT l (k + 1) = runesT l k ++ rns x := by
  unfold runesT runesL
  rw [List.take_add_one, hx, List.flatMap_append]
  simp
theorem runesT_all (l : List Sp) : runesT l l.length = runesL l := by unfold runesT; rw [List.take_length]
theorem runesT_pre (l : List Sp) (k : Nat) : runesT l k <+: runesL l := by
  refine ⟨runesL (l.drop k), ?_⟩
  unfold runesT runesL
  rw [← List.flatMap_append, List.take_append_drop]
theorem rng_length (c : Sp) (h : 0 ≤ wid c) : ((rng c).length : Int) = wid c := by
  unfold rng wid at *
  rw [upto_length]
  omega
theorem runesT_length {l : List Sp} (h : Rgt l) : ∀ k, k ≤ l.length → ((runesT l k).length : Int) = sizeT l k := by
  intro k
  induction k with
  | zero => intro _; rfl
  | succ k ih =>
    intro hk
    have hx : l[k]? = some l[k] := List.getElem?_eq_getElem (by omega)
    obtain ⟨r1, r2, r3⟩ := h.row hx
    have h1 := rng_length _ (com_low r1 r2).2.2.2.2
    have h2 := rng_length _ (com_high r1 r2).2.2.2.2
    have h3 := cnt_parts r1 r2 r3
    have h4 := ih (by omega)
    rw [runesT_succ hx, sizeT_succ hx]
    unfold rns
    simp only [List.length_append, Int.natCast_add]
    omega
theorem runesL_length {l : List Sp} (h : Rgt l) : ((runesL l).length : Int) = sizeA l := by
  rw [← runesT_all, runesT_length h _ (Nat.le_refl _)]
  rfl
theorem rng_com {x p : Sp} {r : Int} (h : r ∈ rng (comL x p)) : x.lo ≤ r ∧ r ≤ x.hi ∧ p.lo ≤ r ∧ r ≤ p.hi := by
  unfold rng at h
  rw [upto_mem] at h
  unfold comL at h
  split at h
  · simp only at h; omega
  · simp only at h; omega
theorem rns_mem {x : Sp} {r : Int} (h : r ∈ rns x) : x.lo ≤ r ∧ r ≤ x.hi ∧ runeB r = true := by
  unfold rns at h
  rw [List.mem_append] at h
  rw [runeB_iff]
  rcases h with h | h
  · have := rng_com h; unfold lowR at this; simp only at this; omega
  · have := rng_com h; unfold highR at this; simp only at this; omega
theorem rns_rise (x : Sp) : (rns x).Pairwise (· < ·) := by
  unfold rns
  rw [List.pairwise_append]
  refine ⟨upto_rise _ _, upto_rise _ _, fun a ha b hb => ?_⟩
  have h1 := rng_com ha
  have h2 := rng_com hb
  unfold lowR at h1
  unfold highR at h2
  simp only at h1 h2
  omega
theorem runesL_rise {l : List Sp} (h : Rgt l) : (runesL l).Pairwise (· < ·) := by
  unfold runesL
  rw [List.pairwise_flatMap]
  refine ⟨fun x _ => rns_rise x, ?_⟩
  rw [List.pairwise_iff_getElem]
  intro i j hi hj hij a ha b hb
  have h1 := h.rise hij (List.getElem?_eq_getElem hi) (List.getElem?_eq_getElem hj)
  have h2 := rns_mem ha
  have h3 := rns_mem hb
  omega
theorem runesL_mem {l : List Sp} {r : Int} (hr : r ∈ runesL l) : inB l r = true ∧ 0 ≤ r := by
  unfold runesL at hr
  rw [List.mem_flatMap] at hr
  obtain ⟨x, hx, h⟩ := hr
  obtain ⟨h1, h2, h3⟩ := rns_mem h
  obtain ⟨i, hi⟩ := List.getElem?_of_mem hx
  rw [inB_eq, h3, lies_true hi h1 h2]
  rw [runeB_iff] at h3
  exact ⟨rfl, h3.1⟩
/-- The last that was handed out; -1: none yet. -/
def lastR (pre : List Int) : Int := pre.getLast?.getD (-1)
theorem lastR_nil : lastR [] = -1 := rfl
theorem lastR_snoc (pre : List Int) (r : Int) : lastR (pre ++ [r]) = r := by simp [lastR]
theorem lastR_lt {l : List Sp} (h : Rgt l) {pre : List Int} {r : Int} (hp : pre ++ [r] <+: runesL l) : lastR pre < r := by
  obtain ⟨t, ht⟩ := hp
  have h1 := runesL_rise h
  rw [← ht, List.append_assoc, List.pairwise_append] at h1
  have h2 : 0 ≤ r := (runesL_mem (l := l) (by rw [← ht]; simp)).2
  rcases List.eq_nil_or_concat pre with rfl | ⟨q, y, rfl⟩
  · rw [lastR_nil]; omega
  · rw [List.concat_eq_append, lastR_snoc]
    exact h1.2.2 y (by simp) r (by simp)
/-- Where the next part's runes begin. -/
theorem start_low {x : Sp} {nx : Int} (h0 : 0 ≤ nx) (h1 : runeB x.lo = true) (hn : nx ≤ x.lo) : min (max (comL x lowR).lo nx) ((comL x lowR).hi + 1) ≤ (comL x lowR).lo := by
  rw [runeB_iff] at h1
  unfold comL lowR
  simp only
  split <;> simp only <;> omega
theorem start_high {x : Sp} {nx : Int} (h0 : 0 ≤ nx) (h1 : runeB x.lo = true) (hn : nx ≤ x.lo) : min (max (comL x highR).lo (max nx ((comL x lowR).hi + 1))) ((comL x highR).hi + 1) ≤ (comL x highR).lo := by
  rw [runeB_iff] at h1
  unfold comL lowR highR
  simp only
  split <;> split <;> simp only <;> omega
theorem next_after {x : Sp} {nx : Int} (h2 : runeB x.hi = true) (h3 : x.lo ≤ x.hi) (hn : nx ≤ x.lo) : max (max nx ((comL x lowR).hi + 1)) ((comL x highR).hi + 1) ≤ x.hi + 1 := by
  rw [runeB_iff] at h2
  unfold comL lowR highR
  simp only
  split <;> split <;> simp only <;> omega
end Go.Proofs.YtaenmgikpkkflaaDoor
