/- The items of a text: what they are. -/
import Derived.Test.YtddeamecgbdajaaDoorUDecode
namespace Go.Proofs.YtddeamecgbdajaaDoor
open Go.RowKit
/-- The first item. -/
def headIt (k : Nat) (l : List UInt8) : It := if (front l).2 = true then ⟨k, (front l).1, rn l, false⟩ else ⟨k, 1, 65533, true⟩
theorem headIt_bytes (k : Nat) (l : List UInt8) : (headIt k l).bytes = wid l := by
  unfold headIt wid; split <;> rfl
theorem headIt_frm (k : Nat) (l : List UInt8) : (headIt k l).frm = k := by
  unfold headIt; split <;> rfl
def itemsF : Nat → Nat → List UInt8 → List It
  | 0, _, _ => []
  | f + 1, k, l => if l = [] then [] else headIt k l :: itemsF f (k + wid l) (l.drop (wid l))
theorem itemsF_any (n : Nat) : ∀ (k : Nat) (l : List UInt8) (f g : Nat), l.length ≤ n → l.length ≤ f → l.length ≤ g → itemsF f k l = itemsF g k l := by
  induction n with
  | zero =>
    intro k l f g h _ _
    have h0 : l = [] := List.length_eq_zero_iff.1 (by omega)
    subst h0
    cases f <;> cases g <;> simp [itemsF]
  | succ n ih =>
    intro k l f g h hf hg
    by_cases h0 : l = []
    · subst h0
      cases f <;> cases g <;> simp [itemsF]
    · have h1 := List.length_pos_iff.2 h0
      have h2 := wid_pos l
      obtain ⟨f, rfl⟩ : ∃ k, f = k + 1 := ⟨f - 1, by omega⟩
      obtain ⟨g, rfl⟩ : ∃ k, g = k + 1 := ⟨g - 1, by omega⟩
      unfold itemsF
      rw [if_neg h0, if_neg h0, ih _ (l.drop (wid l)) f g (by simp; omega) (by simp; omega) (by simp; omega)]
/-- The items of the bytes l, of which the first one is byte k. -/
def items (k : Nat) (l : List UInt8) : List It := itemsF l.length k l
theorem items_nil (k : Nat) : items k [] = [] := rfl
theorem items_cons (k : Nat) (l : List UInt8) (h : l ≠ []) : items k l = headIt k l :: items (k + wid l) (l.drop (wid l)) := by
  have h1 := List.length_pos_iff.2 h
  have h2 := wid_pos l
  unfold items
  obtain ⟨n, hn⟩ : ∃ n, l.length = n + 1 := ⟨l.length - 1, by omega⟩
  rw [hn, itemsF, if_neg h, itemsF_any _ _ (l.drop (wid l)) n _ (Nat.le_refl _) (by simp; omega) (Nat.le_refl _)]
/-- By what is left. -/
theorem bytes_ind {p : List UInt8 → Prop} (hnil : p []) (hcons : ∀ l, l ≠ [] → (∀ m, m.length < l.length → p m) → p l) (l : List UInt8) : p l := by
  obtain ⟨n, hn⟩ : ∃ n, n = l.length := ⟨_, rfl⟩
  induction n using Nat.strongRecOn generalizing l with
  | ind n ih =>
    by_cases h : l = []
    · subst h; exact hnil
    · exact hcons l h fun m hm => ih m.length (by omega) m rfl
theorem drop_wid_lt (l : List UInt8) (h : l ≠ []) : (l.drop (wid l)).length < l.length := by
  have h1 := List.length_pos_iff.2 h
  have h2 := wid_pos l
  simp; omega
theorem items_length (l : List UInt8) : ∀ k, (items k l).length ≤ l.length := by
  refine bytes_ind (p := fun l => ∀ k, (items k l).length ≤ l.length) (fun k => by simp [items_nil]) (fun l h ih k => ?_) l
  have h1 := drop_wid_lt l h
  have h2 := ih _ h1 (k + wid l)
  rw [items_cons k l h]
  simp only [List.length_cons]
  omega
end Go.Proofs.YtddeamecgbdajaaDoor
