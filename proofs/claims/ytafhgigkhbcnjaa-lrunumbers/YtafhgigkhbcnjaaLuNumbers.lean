/- LruNumbers' walk. -/
import Derived.Test.YtafhgigkhbcnjaaLuKnown
namespace Go.Proofs.Ytafhgigkhbcnjaa.LU.T
open Go.RowKit Go.Joins Go.Sort Go.Maps
set_option linter.unusedVariables false
set_option linter.unusedSimpArgs false
set_option maxRecDepth 100000
set_option maxHeartbeats 4000000 in
theorem numbers_walk (W : World) : Calls Try.prog 3 #[] W fun e w' => e = .returned (.bool true) ∧ Below W.heap.size W w' := by
  obtain ⟨B, hB⟩ : ∃ B, B = W.heap.size := ⟨_, rfl⟩
  have HB : Hid (B = W.heap.size) := hB
  rw [← hB]
  clear hB
  go_enter Try.func3, Try.ntmps3
  go_wp2_with fail
  refine (new_no (-1) (by omega) W).mono ?_
  rintro _ w0 ⟨rfl, e0⟩
  obtain rfl := e0.symm
  go_wp2_with fail
  refine (new_no 4097 (by omega) W).mono ?_
  rintro _ w00 ⟨rfl, e0⟩
  obtain rfl := e0.symm
  go_wp2_with fail
  refine (newN 0 (by omega) B W (by rw [HB.out]; exact Nat.le_refl _)).mono ?_
  rintro _ w1 ⟨x, rfl, h1, b1⟩
  have s1 : B ≤ w1.heap.size := Nat.le_trans (Nat.le_of_eq HB.out) b1.size
  go_wp2_with fail
  refine (putN B ⟨#[97]⟩ 1 (kw_small _ (by decide)) x 0 [] w1 h1 s1).mono ?_
  rintro _ w2 ⟨rfl, h2, b2⟩
  rw [st8] at h2
  have b2 := b1.trans b2
  have s2 : B ≤ w2.heap.size := Nat.le_trans (Nat.le_of_eq HB.out) b2.size
  clear h1 b1 s1
  go_wp2_with fail
  refine (getN B ⟨#[97]⟩ (kw_small _ (by decide)) x 0 _ w2 h2 s2).mono ?_
  rintro _ w3 ⟨rfl, h3, b3⟩
  rw [st9] at h3
  rw [go9]
  have b3 := b2.trans b3
  have s3 : B ≤ w3.heap.size := Nat.le_trans (Nat.le_of_eq HB.out) b3.size
  clear h2 b2 s2
  obtain ⟨F, f3, f3b⟩ := h3
  go_wp2_with fail
  refine (new_any 2 (by omega) w3).mono ?_
  rintro _ w4 ⟨y, G, rfl, g4, g4b, b4'⟩
  have f4 : LruN B w4 x 0 [] := ⟨F, f3.below b4', f3b⟩
  have hFG : ∀ i, F i → i < w3.heap.size := by
    obtain ⟨_, _, _, _, _, _, _, _, _, _, _, _, q, _⟩ := f3
    exact q
  have f4' := f3.below b4'
  have HFG : Hid (∀ i, F i → i < w3.heap.size) := hFG
  have HG4 : Hid (∀ i, G i → w3.heap.size ≤ i) := g4b
  have g4' : LruN w3.heap.size w4 y 2 [] := ⟨G, g4, g4b⟩
  have b4 := b3.trans (b4'.mono s3)
  have s4 : w3.heap.size ≤ w4.heap.size := b4'.size
  have HS3 : Hid (B ≤ w3.heap.size) := s3
  have F4 : Hid (Lru w4 x 0 F []) := f4'
  have F3b : Hid (∀ i, F i → B ≤ i) := f3b
  clear f3 b3 f4 f4' g4 g4b hFG b4' f3b s3
  go_wp2_with fail
  refine (putN w3.heap.size ⟨#[97]⟩ 1 (kw_small _ (by decide)) y 2 [] w4 g4' s4).mono ?_
  rintro _ w5 ⟨rfl, g5, b5'⟩
  rw [st1] at g5
  have b5 := b4.trans (b5'.mono HS3.out)
  have s5 : w3.heap.size ≤ w5.heap.size := Nat.le_trans s4 b5'.size
  have F5 : Hid (Lru w5 x 0 F []) := F4.out.tu (G := fun i => w3.heap.size ≤ i) ⟨b5'.os, b5'.tape, b5'.output, b5'.size, fun k hk h => b5'.block k (by omega)⟩ (fun i hi h => by have := HFG.out i hi; omega)
  clear g4' b4 s4 b5' F4
  go_wp2_with fail
  refine (putN w3.heap.size ⟨#[97]⟩ 2 (kw_small _ (by decide)) y 2 _ w5 g5 s5).mono ?_
  rintro _ w6 ⟨rfl, g6, b6'⟩
  rw [st6] at g6
  have b6 := b5.trans (b6'.mono HS3.out)
  have s6 : w3.heap.size ≤ w6.heap.size := Nat.le_trans s5 b6'.size
  have F6 : Hid (Lru w6 x 0 F []) := F5.out.tu (G := fun i => w3.heap.size ≤ i) ⟨b6'.os, b6'.tape, b6'.output, b6'.size, fun k hk h => b6'.block k (by omega)⟩ (fun i hi h => by have := HFG.out i hi; omega)
  clear g5 b5 s5 b6' F5
  go_wp2_with fail
  refine (getN w3.heap.size ⟨#[97]⟩ (kw_small _ (by decide)) y 2 _ w6 g6 s6).mono ?_
  rintro _ w7 ⟨rfl, g7, b7'⟩
  rw [st7] at g7
  rw [go7]
  have b7 := b6.trans (b7'.mono HS3.out)
  have s7 : w3.heap.size ≤ w7.heap.size := Nat.le_trans s6 b7'.size
  have F7 : LruN B w7 x 0 [] := ⟨F, F6.out.tu (G := fun i => w3.heap.size ≤ i) ⟨b7'.os, b7'.tape, b7'.output, b7'.size, fun k hk h => b7'.block k (by omega)⟩ (fun i hi h => by have := HFG.out i hi; omega), F3b.out⟩
  clear g6 b6 s6 b7' F6
  go_wp2_with fail
  refine (lenN B x 0 _ w7 F7).mono ?_
  rintro _ w8 ⟨rfl, e8⟩
  obtain rfl := e8.symm
  go_wp2_with fail
  refine (lenN _ y 2 _ w7 g7).mono ?_
  rintro _ w9 ⟨rfl, e9⟩
  obtain rfl := e9.symm
  go_wp2_with fail
  refine (known_any w7).mono ?_
  rintro _ w10 ⟨rfl, b10⟩
  have b11 := b7.trans (b10.mono (by have := HB.out; have := HS3.out; omega))
  go_wp2_with fail
  go_ret
  exact ⟨rfl, b11⟩
end Go.Proofs.Ytafhgigkhbcnjaa.LU.T
