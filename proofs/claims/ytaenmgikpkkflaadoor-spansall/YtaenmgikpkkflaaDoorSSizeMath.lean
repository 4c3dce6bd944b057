/- How many runes lie in a list of spans: the mathematics. -/
import Derived.Test.YtaenmgikpkkflaaDoorSRight
namespace Go.Proofs.YtaenmgikpkkflaaDoor
/-- How many numbers a span has. -/
def wid (x : Sp) : Int := x.hi - x.lo + 1
/-- How many runes a right span has. -/
def cnt (x : Sp) : Int := wid x - (if x.lo < 55296 ∧ 57343 < x.hi then 2048 else 0)
def sizeT (l : List Sp) : Nat → Int
  | 0 => 0
  | k + 1 => sizeT l k + (match l[k]? with | some x => cnt x | none => 0)
def sizeA (l : List Sp) : Int := sizeT l l.length
theorem sizeT_succ {l : List Sp} {k : Nat} {x : Sp} (hx : l[k]? = some x) : sizeT l (k + 1) = sizeT l k + cnt x := by
  simp [sizeT, hx]
theorem cnt_parts {x : Sp} (h1 : runeB x.lo = true) (h2 : runeB x.hi = true) (h3 : x.lo ≤ x.hi) : wid (comL x lowR) + wid (comL x highR) = cnt x := by
  rw [runeB_iff] at h1 h2
  unfold cnt comL wid lowR highR
  simp only
  split <;> split <;> split <;> simp only <;> omega
theorem com_low {x : Sp} (h1 : runeB x.lo = true) (h2 : runeB x.hi = true) : 0 ≤ (comL x lowR).lo ∧ (comL x lowR).lo ≤ 1114111 ∧ -1 ≤ (comL x lowR).hi ∧ (comL x lowR).hi ≤ 1114111 ∧ 0 ≤ wid (comL x lowR) := by
  rw [runeB_iff] at h1 h2
  unfold comL wid lowR
  simp only
  split <;> simp only <;> omega
theorem com_high {x : Sp} (h1 : runeB x.lo = true) (h2 : runeB x.hi = true) : 0 ≤ (comL x highR).lo ∧ (comL x highR).lo ≤ 1114111 ∧ -1 ≤ (comL x highR).hi ∧ (comL x highR).hi ≤ 1114111 ∧ 0 ≤ wid (comL x highR) := by
  rw [runeB_iff] at h1 h2
  unfold comL wid highR
  simp only
  split <;> simp only <;> omega
theorem cnt_pos {x : Sp} (h1 : runeB x.lo = true) (h2 : runeB x.hi = true) (h3 : x.lo ≤ x.hi) : 0 ≤ cnt x ∧ cnt x ≤ wid x := by
  rw [runeB_iff] at h1 h2
  unfold cnt wid
  split <;> omega
theorem sizeT_le {l : List Sp} (h : Rgt l) (k : Nat) : ∀ y, l[k]? = some y → 0 ≤ sizeT l k ∧ sizeT l k ≤ y.lo := by
  induction k with
  | zero =>
    intro y hy
    have := (h.row hy).1
    rw [runeB_iff] at this
    exact ⟨Int.le_refl _, this.1⟩
  | succ k ih =>
    intro y hy
    have hkl : k < l.length := by have := (List.getElem?_eq_some_iff.1 hy).1; omega
    have hx : l[k]? = some l[k] := List.getElem?_eq_getElem hkl
    obtain ⟨h1, h2⟩ := ih _ hx
    obtain ⟨r1, r2, r3⟩ := h.row hx
    have h3 := cnt_pos r1 r2 r3
    have h4 := h.next hx hy
    rw [sizeT_succ hx]
    unfold wid at h3
    omega
theorem sizeT_most {l : List Sp} (h : Rgt l) {k : Nat} {x : Sp} (hx : l[k]? = some x) : 0 ≤ sizeT l (k + 1) ∧ sizeT l (k + 1) ≤ 1114112 := by
  obtain ⟨h1, h2⟩ := sizeT_le h k x hx
  obtain ⟨r1, r2, r3⟩ := h.row hx
  have h3 := cnt_pos r1 r2 r3
  rw [sizeT_succ hx]
  rw [runeB_iff] at r2
  unfold wid at h3
  omega
theorem sizeA_le {l : List Sp} (h : Rgt l) : 0 ≤ sizeA l ∧ sizeA l ≤ 1114112 := by
  unfold sizeA
  cases hl : l.length with
  | zero => simp [sizeT]
  | succ k => exact sizeT_most h (List.getElem?_eq_getElem (by omega : k < l.length))
end Go.Proofs.YtaenmgikpkkflaaDoor
