/- The item at a text's front, by the language's own decoding. -/
import Derived.Test.YtddeamecgbdajaaDoorURangeMath
import Derived.Test.YtddeamecgbdajaaDoorUText
import Derived.Lib.OthersKept
namespace Go.Proofs.YtddeamecgbdajaaDoor
open Go.RowKit Go.Lib
theorem str_eq (a b : ByteArray) : (a.toList == b.toList) = decide (tl a = tl b) := by
  rw [ByteArray.toList_eq, ByteArray.toList_eq, Bool.eq_iff_iff]
  simp
theorem decode_pos (s : ByteArray) (i : Nat) (h : i < s.size) : 1 ≤ (Utf8.decode s i).2 ∧ i + (Utf8.decode s i).2 ≤ s.size := by
  have hne : (tl s).drop i ≠ [] := fun e => by have := congrArg List.length e; simp at this; omega
  have hl : ((tl s).drop i).length = s.size - i := by simp
  rw [decode_front s i hne]
  have h1 := front_le ((tl s).drop i)
  rw [hl] at h1
  split
  · rename_i hb
    have := h1.2.2.1 hb
    exact ⟨this, by simp only; omega⟩
  · exact ⟨Nat.le_refl _, by simp only; omega⟩
set_option maxRecDepth 100000 in
theorem headIt_facts (k : Nat) (l : List UInt8) : (headIt k l).frm = k ∧ (headIt k l).bytes = wid l ∧ ((headIt k l).bad = true → (headIt k l).rune = 65533 ∧ (headIt k l).bytes = 1) ∧ ((headIt k l).bad = false → ¬ ((headIt k l).rune = 65533 ∧ (headIt k l).bytes = 1) ∧ tl (Utf8.encode ((headIt k l).rune : Nat)) = l.take (headIt k l).bytes) := by
  have hs := front_spec l
  have er := encode_rn l
  refine ⟨headIt_frm k l, headIt_bytes k l, ?_, ?_⟩
  · unfold headIt
    split
    · intro h'; cases h'
    · intro _; simp
  · unfold headIt
    split
    · rename_i hb
      intro _
      refine ⟨fun hh => ?_, by dsimp only; exact er hb⟩
      obtain ⟨h1, h2⟩ := hh
      simp only at h1 h2
      unfold rn at h1
      rw [if_pos h2] at h1
      have := bt_lt l 0
      omega
    · intro h'; cases h'
theorem decode_head (s : ByteArray) (i : Nat) (h : (tl s).drop i ≠ []) : (Utf8.decode s i).1 = (headIt i ((tl s).drop i)).rune ∧ (Utf8.decode s i).2 = (headIt i ((tl s).drop i)).bytes := by
  rw [decode_front s i h]
  unfold headIt
  split <;> exact ⟨rfl, rfl⟩
end Go.Proofs.YtddeamecgbdajaaDoor
