/- tesseralaw9: known, ChainNumbers. -/
import Derived.Test.YtlmbkhpbfmkmjaaCHNew
namespace Go.Proofs.Ytlmbkhpbfmkmjaa.CH
open Go.RowKit Go.Joins Go.Sort
set_option linter.unusedVariables false
set_option linter.unusedSimpArgs false
set_option maxRecDepth 100000
theorem Ch.lt {w : World} {g b n : Nat} {inn : Nat → Bool} {cnt : Int} (h : Ch w g b n inn cnt) : g < w.heap.size ∧ b < w.heap.size := by
  obtain ⟨p, q, ⟨arr, h1, _⟩, _⟩ := h.links
  exact ⟨(Array.getElem?_eq_some_iff.1 h.own).1, (Array.getElem?_eq_some_iff.1 h1).1⟩
theorem Ch.tn {w w' : World} {g b n g2 b2 : Nat} {inn : Nat → Bool} {cnt : Int} (h : Ch w g b n inn cnt) (ht : Tn g2 b2 w w') (h1 : g ≠ g2) (h2 : g ≠ b2) (h3 : b ≠ g2) (h4 : b ≠ b2) : Ch w' g b n inn cnt :=
  h.kept (ht.block g h.lt.1 h1 h2) (ht.block b h.lt.2 h3 h4)
theorem has_in {inn : Nat → Bool} {n k : Nat} (hk : k < n) (hin : inn k = true) : hasB inn n (k : Nat) = true := by simp [hasB, hk, hin]
set_option maxHeartbeats 2000000 in
theorem known_any (W : World) : Calls Try.prog 12 #[] W fun e w' => e = .returned (.bool true) ∧ Below W.heap.size W w' := by
  have HN := new_any 4 4 4 W rfl rfl (by omega)
  go_enter Try.func12, Try.ntmps12
  go_wp2_with fail
  refine HN.mono ?_
  rintro e w1 ⟨g, b, rfl, hg, hb, hC, B1⟩
  clear HN
  have H1 := cut_yes g b 4 (inn0 4) (4 : Nat) 1 w1 hC (by omega) rfl (by omega)
  have e1 : (((1 : Nat) : Int)) = 1 := rfl
  rw [e1] at H1
  clear e1
  go_wp2_with fail
  refine H1.mono ?_
  rintro e w2 ⟨rfl, hC2, t2⟩
  have B2 := B1.trans (t2.below hg hb B1.size)
  clear H1 hC t2 B1
  have H1 := cut_yes g b 4 (cutP (inn0 4) 1) _ 2 w2 hC2 (by omega) rfl (by omega)
  have e1 : (((2 : Nat) : Int)) = 2 := rfl
  rw [e1] at H1
  clear e1
  go_wp2_with fail
  refine H1.mono ?_
  rintro e w3 ⟨rfl, hC3, t3⟩
  have B3 := B2.trans (t3.below hg hb B2.size)
  clear H1 hC2 t3 B2
  have H1 := next_any g b 4 _ _ 0 w3 hC3
  rw [show nextA (cutP (cutP (inn0 4) 1) 2) 4 0 = 3 from rfl] at H1
  go_wp2_with fail
  refine H1.mono ?_
  rintro e w4 ⟨rfl, he⟩
  obtain rfl := he.symm
  clear H1
  have H1 := prev_any g b 4 _ _ 3 w3 hC3
  rw [show prevA (cutP (cutP (inn0 4) 1) 2) 4 3 = 0 from rfl] at H1
  go_wp2_with fail
  refine H1.mono ?_
  rintro e w5 ⟨rfl, he⟩
  obtain rfl := he.symm
  clear H1
  have H1 := len_any g b 4 _ w3 hC3.own
  go_wp2_with fail
  refine H1.mono ?_
  rintro e w6 ⟨rfl, he⟩
  obtain rfl := he.symm
  clear H1
  go_wp2_with fail
  go_ret
  exact ⟨rfl, B3⟩
set_option maxHeartbeats 4000000 in
theorem numbers_any (W : World) : Calls Try.prog 3 #[] W fun e w' => e = .returned (.bool true) ∧ Below W.heap.size W w' := by
  have HN := new_any 4 4 4 W rfl rfl (by omega)
  go_enter Try.func3, Try.ntmps3
  go_wp2_with fail
  refine HN.mono ?_
  rintro e w1 ⟨g, b, rfl, hg, hb, hC, B1⟩
  clear HN
  have HN := new_any (-1) 0 0 w1 rfl rfl (by omega)
  go_wp2_with fail
  refine HN.mono ?_
  rintro e w2 ⟨g2, b2, rfl, hg2, hb2, hD, b2'⟩
  have hlt1 := hC.lt
  have hC := hC.below b2'
  have B2 := B1.trans (b2'.mono B1.size)
  clear HN
  have HN := new_any 1048581 1048581 1048576 w2 rfl rfl (by omega)
  go_wp2_with fail
  refine HN.mono ?_
  rintro e w3 ⟨g3, b3, rfl, hg3, hb3, hE, b3'⟩
  have hC2 := hC.lt
  have hD2 := hD.lt
  have hC := hC.below b3'
  have hD := hD.below b3'
  have B3 := B2.trans (b3'.mono B2.size)
  have hne : (g ≠ g2 ∧ g ≠ b2 ∧ b ≠ g2 ∧ b ≠ b2) ∧ (g ≠ g3 ∧ g ≠ b3 ∧ b ≠ g3 ∧ b ≠ b3) := by
    have h4 := B1.size
    have h5 := B2.size
    have h6 := b2'.size
    omega
  clear HN hlt1 b2' b3' B1 B2 hg2 hb2 hg3 hb3 hC2 hD2
  have H1 := cut_yes g b 4 (inn0 4) (4 : Nat) 1 w3 hC (by omega) rfl (by omega)
  have e1 : (((1 : Nat) : Int)) = 1 := rfl
  rw [e1] at H1
  clear e1
  go_wp2_with fail
  refine H1.mono ?_
  rintro e w4 ⟨rfl, hC4, t4⟩
  have hD4 := hD.tn t4 hne.1.1.symm hne.1.2.2.1.symm hne.1.2.1.symm hne.1.2.2.2.symm
  have hE4 := hE.tn t4 hne.2.1.symm hne.2.2.2.1.symm hne.2.2.1.symm hne.2.2.2.2.symm
  have B4 := B3.trans (t4.below hg hb B3.size)
  clear H1 hC hD hE t4 B3 hne
  have H1 := next_any g b 4 _ _ 1 w4 hC4
  rw [show nextA (cutP (inn0 4) 1) 4 1 = -1 from rfl] at H1
  go_wp2_with fail
  refine H1.mono ?_
  rintro e w5 ⟨rfl, he⟩
  obtain rfl := he.symm
  clear H1
  have H1 := cut_no g b 4 _ _ 1 w4 hC4 rfl
  go_wp2_with fail
  refine H1.mono ?_
  rintro e w6 ⟨rfl, he⟩
  obtain rfl := he.symm
  clear H1
  have H1 := next_any g b 4 _ _ 9 w4 hC4
  rw [show nextA (cutP (inn0 4) 1) 4 9 = -1 from rfl] at H1
  go_wp2_with fail
  refine H1.mono ?_
  rintro e w7 ⟨rfl, he⟩
  obtain rfl := he.symm
  clear H1
  have H1 := prev_any g b 4 _ _ 0 w4 hC4
  rw [show prevA (cutP (inn0 4) 1) 4 0 = -1 from rfl] at H1
  go_wp2_with fail
  refine H1.mono ?_
  rintro e w8 ⟨rfl, he⟩
  obtain rfl := he.symm
  clear H1
  have H1 := next_any g b 4 _ _ 3 w4 hC4
  rw [show nextA (cutP (inn0 4) 1) 4 3 = -1 from rfl] at H1
  go_wp2_with fail
  refine H1.mono ?_
  rintro e w9 ⟨rfl, he⟩
  obtain rfl := he.symm
  clear H1
  have H1 := has_any g b 4 _ _ (-1) w4 hC4
  rw [show hasB (cutP (inn0 4) 1) 4 (-1) = false from rfl] at H1
  go_wp2_with fail
  refine H1.mono ?_
  rintro e w10 ⟨rfl, he⟩
  obtain rfl := he.symm
  clear H1
  have H1 := len_any g2 b2 0 _ w4 hD4.own
  go_wp2_with fail
  refine H1.mono ?_
  rintro e w11 ⟨rfl, he⟩
  obtain rfl := he.symm
  clear H1
  have H1 := len_any g3 b3 1048576 _ w4 hE4.own
  go_wp2_with fail
  refine H1.mono ?_
  rintro e w12 ⟨rfl, he⟩
  obtain rfl := he.symm
  clear H1
  go_wp2_with fail
  refine (known_any _).mono ?_
  rintro e w13 ⟨rfl, hb13⟩
  go_wp2_with fail
  go_ret
  exact ⟨rfl, B4.trans (hb13.mono B4.size)⟩
end Go.Proofs.Ytlmbkhpbfmkmjaa.CH
