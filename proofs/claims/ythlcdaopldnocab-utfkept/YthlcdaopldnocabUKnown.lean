/- 'known' answers true. -/
import Derived.Test.YthlcdaopldnocabUList
namespace Go.Proofs.Ythlcdaopldnocab
open Go.RowKit Go.Shelf
open Go.Joins
theorem cellsI_get (l : List It) (i : Nat) (x : It) (h : l[i]? = some x) (j : Nat) (hj : j < 4) : (cellsI l)[i * 4 + j]? = (cellI x)[j]? := by
  induction l generalizing i with
  | nil => simp at h
  | cons y l ih =>
    have hy : (cellI y).length = 4 := rfl
    show (cellI y ++ cellsI l)[i * 4 + j]? = _
    cases i with
    | zero =>
      have : y = x := by simpa using h
      subst this
      rw [List.getElem?_append_left (by omega), Nat.zero_mul, Nat.zero_add]
    | succ i =>
      rw [List.getElem?_append_right (by omega), hy, show (i + 1) * 4 + j - 4 = i * 4 + j by omega]
      exact ih i (by simpa using h)
/-- A row's item at place i lies there. -/
def ItAt (W : World) (g : Nat) (i : Nat) (x : It) : Prop :=
  W.cell? ⟨g, i * 4, none⟩ = some (.int .i64 (x.frm : Nat)) ∧ W.cell? ⟨g, i * 4 + 1, none⟩ = some (.int .i64 (x.bytes : Nat)) ∧ W.cell? ⟨g, i * 4 + 2, none⟩ = some (.int .i32 (x.rune : Nat)) ∧ W.cell? ⟨g, i * 4 + 3, none⟩ = some (.bool x.bad)
theorem OwnI.form {T : TypeId} {w : World} {base : Nat} {v : Value} {l : List It} (h : OwnI T w base v l) (hl : l ≠ []) :
    ∃ g cap, v = .slice (some ⟨g, 0, none⟩) l.length cap ∧ base ≤ g ∧ g < w.heap.size ∧ l.length ≤ cap ∧ cap ≤ 9223372036854775807 ∧ ∀ i x, l[i]? = some x → ItAt w g i x := by
  have h0 := List.length_pos_iff.2 hl
  rcases h.1.2 with ⟨_, h1⟩ | ⟨g, cap, cur, hv, hg, hh, hn, hm, _, ht⟩
  · omega
  · refine ⟨g, cap, hv, hg, (Array.getElem?_eq_some_iff.1 hh).1, hn, by simpa [maxLen] using hm, fun i x hx => ?_⟩
    subst hv
    have hi : i < l.length := (List.getElem?_eq_some_iff.1 hx).1
    have hc : ∀ j, j < 4 → w.cell? ⟨g, i * 4 + j, none⟩ = (cellI x)[j]? := fun j hj => by
      rw [World.ownsRow.cellAt h.1 (i * 4 + j) (by omega)]
      exact cellsI_get l i x hx j hj
    exact ⟨hc 0 (by omega), hc 1 (by omega), hc 2 (by omega), hc 3 (by omega)⟩
theorem known_items : items 0 (tl ⟨#[97, 226, 130, 172, 255]⟩) = [⟨0, 1, 97, false⟩, ⟨1, 3, 8364, false⟩, ⟨4, 1, 65533, true⟩] := by kernel_rfl
theorem known_tail : tailL (tl ⟨#[97, 226, 130]⟩) = 2 := by decide
theorem known_repl : replL (tl ⟨#[240, 159, 152, 97]⟩) = [239, 191, 189, 97] := by decide
set_option maxHeartbeats 1000000 in
theorem known_any (w : World) : Calls Try.prog 6 #[] w fun e w' => e = .returned (.bool true) ∧ Below w.heap.size w w' := by
  have HL := list_any ⟨#[97, 226, 130, 172, 255]⟩ (by decide) w
  rw [known_items] at HL
  have HT := fun wx => tail_any ⟨#[97, 226, 130]⟩ wx (by decide)
  rw [known_tail] at HT
  have HR := fun wx => replace_any ⟨#[240, 159, 152, 97]⟩ wx (by decide)
  rw [known_repl, show textOf [239, 191, 189, 97] = (⟨#[239, 191, 189, 97]⟩ : ByteArray) from rfl] at HR
  go_enter Try.func6, Try.ntmps6
  go_wp2_with fail
  refine HL.mono ?_; rintro e w1 ⟨v, rfl, ho, hb1⟩
  obtain ⟨g, cap, rfl, hg, hgl, hc1, hc2, hi⟩ := ho.form (by simp)
  obtain ⟨c10, c11, c12, c13⟩ := hi 1 _ rfl
  obtain ⟨c20, c21, c22, c23⟩ := hi 2 _ rfl
  simp only [Nat.reduceMul, Nat.reduceAdd] at c10 c11 c12 c13 c20 c21 c22 c23
  clear hi ho
  go_wp2_with fail
  refine (HT _).mono ?_; rintro e w2 ⟨rfl, rfl⟩
  go_wp2_with fail
  refine (HR _).mono ?_; rintro e w3 ⟨rfl, hb3⟩
  go_wp2_with fail
  go_ret
  exact ⟨rfl, hb1.trans (hb3.mono hb1.size)⟩
end Go.Proofs.Ythlcdaopldnocab
