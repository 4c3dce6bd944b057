/- 'known' answers true. -/
import Derived.Test.YtaenmgikpkkflaaDoorSIn
import Derived.Test.YtaenmgikpkkflaaDoorSSize
import Derived.Test.YtaenmgikpkkflaaDoorSMeet
import Derived.Lib.SmallJoins
namespace Go.Proofs.YtaenmgikpkkflaaDoor
open Go.RowKit Go.Sort Go.Joins
/-- A list's cells. -/
def cellsS (l : List Sp) : List Value := l.flatMap fun x => [.int .i32 x.lo, .int .i32 x.hi]
theorem cellsS_length (l : List Sp) : (cellsS l).length = l.length * 2 := by
  induction l with
  | nil => rfl
  | cons x l ih => simp only [cellsS, List.flatMap_cons, List.length_append, List.length_cons] at ih ⊢; rw [ih]; simp; omega
theorem cellsS_get (l : List Sp) (i : Nat) (x : Sp) (h : l[i]? = some x) : (cellsS l)[i * 2]? = some (.int .i32 x.lo) ∧ (cellsS l)[i * 2 + 1]? = some (.int .i32 x.hi) := by
  induction l generalizing i with
  | nil => simp at h
  | cons y l ih =>
    cases i with
    | zero =>
      have : y = x := by simpa using h
      subst this
      exact ⟨rfl, rfl⟩
    | succ i =>
      have := ih i (by simpa using h)
      have e : cellsS (y :: l) = .int .i32 y.lo :: .int .i32 y.hi :: cellsS l := rfl
      rw [e, show (i + 1) * 2 = i * 2 + 1 + 1 by omega, show i * 2 + 1 + 1 + 1 = i * 2 + 1 + 1 + 1 from rfl]
      simpa using this
theorem SPS.of_block {w : World} {g : Nat} {l r : List Sp} {t : TypeId} {fr : Nat × Nat} (h : w.heap[g]? = some (.cells (cellsS (l ++ r)).toArray t fr)) : SPS w (some ⟨g, 0, none⟩) l := by
  refine .inr ⟨g, 0, rfl, fun i x hx => ?_⟩
  have hx' : (l ++ r)[i]? = some x := by
    rw [List.getElem?_append_left (List.getElem?_eq_some_iff.1 hx).1]; exact hx
  obtain ⟨h0, h1⟩ := cellsS_get _ _ _ hx'
  refine ⟨?_, ?_⟩ <;> rw [cell_of_block h, Nat.zero_add] <;> simpa
theorem SPS.new (w : World) (l : List Sp) (t : TypeId) : SPS (w.alloc (.cells (cellsS l).toArray t)) (some ⟨w.heap.size, 0, none⟩) l :=
  SPS.of_block (r := []) (by rw [List.append_nil]; exact heap_alloc_new _ _)
theorem right_two : rowV (rightA [⟨65, 90⟩, ⟨90, 91⟩]) = .tuple #[.int .i64 1, .int .i64 15] := by
  have : rightA [⟨65, 90⟩, ⟨90, 91⟩] = (1, 15) := by decide
  rw [this]; rfl
theorem rgt_of {l : List Sp} (h : (rightA l).2 = 0) : Rgt l := rightA_zero h
theorem size_gap : sizeA [⟨55295, 57344⟩] = 2 := by decide
set_option maxHeartbeats 2000000 in
theorem known_any (w : World) (hG : GL w) : Calls Tryd.prog 12 #[] w fun e w' => e = .returned (.bool true) ∧ Below w.heap.size w w' := by
  have HR := fun (wx : World) (g : Nat) (h : SPS wx (some ⟨g, 0, none⟩) [⟨65, 90⟩, ⟨90, 91⟩]) (hx : GL wx) => right_any (some ⟨g, 0, none⟩) 2 _ wx (by decide) h hx
  rw [right_two] at HR
  have HI := fun (wx : World) (g : Nat) (h : SPS wx (some ⟨g, 0, none⟩) [⟨65, 90⟩]) (hx : GL wx) => in_any (some ⟨g, 0, none⟩) 1 _ 90 wx (by decide) (by decide) h (rgt_of (by decide)) hx
  rw [show inB [⟨65, 90⟩] 90 = true by decide] at HI
  have HS := fun (wx : World) (g : Nat) (h : SPS wx (some ⟨g, 0, none⟩) [⟨55295, 57344⟩]) (hx : GL wx) => size_any (some ⟨g, 0, none⟩) 1 _ wx (by decide) h (rgt_of (by decide)) hx
  rw [size_gap] at HS
  simp only [List.length_cons, List.length_nil, Nat.reduceAdd] at HR HI HS
  have b0 := (Below.refl w.heap.size w).alloc (Nat.le_refl _) (.cells (cellsS [⟨65, 90⟩, ⟨90, 91⟩]).toArray 26)
  have HR := HR _ w.heap.size (SPS.new w [⟨65, 90⟩, ⟨90, 91⟩] 26) (hG.below b0)
  have hG0 := hG.below b0
  go_enter Tryd.func12, Tryd.ntmps12
  go_wp2_with fail
  refine HR.mono ?_
  rintro e w1 ⟨rfl, hb1⟩
  have hG1 := hG0.below hb1
  have B1 := b0.trans (hb1.mono b0.size)
  have b1 := (Below.refl w1.heap.size w1).alloc (Nat.le_refl _) (.cells (cellsS [⟨65, 90⟩]).toArray 26)
  have HI := HI _ w1.heap.size (SPS.new w1 [⟨65, 90⟩] 26) (hG1.below b1)
  have hG2 := hG1.below b1
  have B2 := B1.trans (b1.mono B1.size)
  clear HR hG b0 hb1 hG0
  go_wp2_with fail
  refine HI.mono ?_
  rintro e w2 ⟨rfl, hb2⟩
  have hG3 := hG2.below hb2
  have B3 := B2.trans (hb2.mono B2.size)
  have b3 := (Below.refl w2.heap.size w2).alloc (Nat.le_refl _) (.cells (cellsS [⟨55295, 57344⟩]).toArray 26)
  have HS := HS _ w2.heap.size (SPS.new w2 [⟨55295, 57344⟩] 26) (hG3.below b3)
  have B4 := B3.trans (b3.mono B3.size)
  clear HI hG1 B1 b1 hG2 B2 hb2
  go_wp2_with fail
  refine HS.mono ?_
  rintro e w3 ⟨rfl, hb3⟩
  go_wp2_with fail
  go_ret
  exact ⟨rfl, B4.trans (hb3.mono B4.size)⟩
end Go.Proofs.YtaenmgikpkkflaaDoor
