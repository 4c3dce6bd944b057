/- Items: what they are; utf.badByte, utf.sequence: their contracts. -/
import Derived.Test.YtddeamecgbdajaaDoorUFront
import Derived.Laws.IdiomStrings
import Derived.Laws.RangeAny
namespace Go.Proofs.YtddeamecgbdajaaDoor
open Go.RowKit
/-- An item. -/
structure It where
  frm : Nat
  bytes : Nat
  rune : Nat
  bad : Bool
/-- Its value. -/
def itv (x : It) : Value := .agg #[.int .i64 (x.frm : Nat), .int .i64 (x.bytes : Nat), .int .i32 (x.rune : Nat), .bool x.bad]
theorem badByte_any (k : Nat) (w : World) : Calls Tryd.prog 35 #[.int .i64 (k : Nat)] w fun e w' => e = .returned (itv ⟨k, 1, 65533, true⟩) ∧ Below w.heap.size w w' := by
  go_enter Tryd.func35, Tryd.ntmps35
  go_wp2_with fail
  exact bodyPost_ret (v := itv ⟨k, 1, 65533, true⟩) (by simp [results, Tryd.results35, go_sem, itv]) rfl ⟨rfl, (Below.refl _ _).alloc (Nat.le_refl _) _⟩
theorem runesFrom_size (s : ByteArray) (b : Nat) : ∀ (i : Nat) (acc : Array Value), acc.size ≤ (Conv.runesFrom s b i acc).size := by
  induction b with
  | zero => intro i acc; simp [Conv.runesFrom]
  | succ b ih =>
    intro i acc
    unfold Conv.runesFrom
    split
    · exact Nat.le_trans (by simp) (ih _ _)
    · exact Nat.le_refl _
theorem runesFrom_get (s : ByteArray) (b : Nat) : ∀ (i : Nat) (acc : Array Value) (j : Nat), j < acc.size → (Conv.runesFrom s b i acc)[j]? = acc[j]? := by
  induction b with
  | zero => intro i acc j _; simp [Conv.runesFrom]
  | succ b ih =>
    intro i acc j hj
    unfold Conv.runesFrom
    split
    · rw [ih _ _ j (by simp; omega)]
      simp [Array.getElem?_push, show j ≠ acc.size by omega]
    · rfl
theorem runesFrom_first (s : ByteArray) (h : 0 < s.size) : (Conv.runesFrom s s.size 0 #[])[0]? = some (.int .i32 ((Utf8.decode s 0).1 : Nat)) := by
  obtain ⟨n, hn⟩ : ∃ n, s.size = n + 1 := ⟨s.size - 1, by omega⟩
  rw [hn]
  unfold Conv.runesFrom
  rw [if_pos (by omega)]
  rw [runesFrom_get _ _ _ _ _ (by simp)]
  rfl
theorem runesFrom_most (s : ByteArray) (b : Nat) : ∀ (i : Nat) (acc : Array Value), (Conv.runesFrom s b i acc).size ≤ acc.size + b := by
  induction b with
  | zero => intro i acc; simp [Conv.runesFrom]
  | succ b ih =>
    intro i acc
    unfold Conv.runesFrom
    split
    · have := ih (i + (Utf8.decode s i).2) (acc.push (.int .i32 (Int.ofNat (Utf8.decode s i).1)))
      simp at this ⊢
      omega
    · omega
theorem sequence_any (s : ByteArray) (k : Nat) (h0 : 0 < s.size) (h4 : s.size ≤ 4) (w : World) :
    Calls Tryd.prog 37 #[.string s, .int .i64 (k : Nat)] w fun e w' => e = .returned (itv ⟨k, s.size, (Utf8.decode s 0).1, false⟩) ∧ Below w.heap.size w w' := by
  have hm := runesFrom_most s s.size 0 #[]
  simp only [Array.size_empty] at hm
  have hcv := fun wx : World => run_runes_of_string (P := Tryd.prog) wx 9 69 21 s Tryd.underlying9 Tryd.underlying69 Tryd.underlying21 (by omega)
  have h1 := runesFrom_first s h0
  have h2 : 0 < (Conv.runesFrom s s.size 0 #[]).size := by
    rcases Nat.eq_zero_or_pos (Conv.runesFrom s s.size 0 #[]).size with h | h
    · rw [Array.getElem?_eq_none (by omega)] at h1; cases h1
    · exact h
  obtain ⟨L, hL⟩ : ∃ L, L = Conv.runesFrom s s.size 0 #[] := ⟨_, rfl⟩
  rw [← hL] at hcv h1 h2
  clear hL hm
  obtain ⟨r, hr⟩ : ∃ r, r = (Utf8.decode s 0).1 := ⟨_, rfl⟩
  rw [← hr] at h1 ⊢
  clear hr
  have h1' : ∀ n, (L ++ Array.replicate n (Value.int .i32 0))[0]? = some (.int .i32 (r : Nat)) := fun n => by rw [Array.getElem?_append_left h2, h1]
  clear h1
  go_enter Tryd.func37, Tryd.ntmps37
  go_wp2_with fail
  exact bodyPost_ret (v := itv ⟨k, s.size, r, false⟩) (by simp [results, Tryd.results37, go_sem, itv]) rfl ⟨rfl, (((Below.refl _ _).alloc (Nat.le_refl _) _).alloc (by simp) _).drew⟩
end Go.Proofs.YtddeamecgbdajaaDoor
