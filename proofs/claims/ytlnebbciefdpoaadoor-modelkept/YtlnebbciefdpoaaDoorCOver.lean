/- classes.over: its contract. -/
import Derived.Test.YtlnebbciefdpoaaDoorCRules
namespace Go.Proofs.YtlnebbciefdpoaaDoor
open Go.RowKit Go.Sort Go.Joins
def adL (a b c : Option Addr) : Nat → Option Addr
  | 1 => a
  | 2 => b
  | 3 => c
  | _ => none
def cpL (a b c : Nat) : Nat → Nat
  | 1 => a
  | 2 => b
  | 3 => c
  | _ => 0
/-- The four lists. -/
theorem four {w : World} {a b c : Option Addr} {ca cb cc : Nat} {A B C : List Sp} (hA : Lst w a ca A) (hB : Lst w b cb B) (hC : Lst w c cc C) (j : Nat) : Lst w (adL a b c j) (cpL ca cb cc j) (pickL A B C j) := by
  match j with
  | 0 => exact ⟨Nat.le_refl _, by show 0 ≤ _; omega, .inl rfl⟩
  | 1 => exact hA
  | 2 => exact hB
  | 3 => exact hC
  | _ + 4 => exact ⟨Nat.le_refl _, by show 0 ≤ _; omega, .inl rfl⟩
/-- The four cells. -/
def Four (w : World) (b0 : Nat) (a b c : Option Addr) (ca cb cc : Nat) (A B C : List Sp) : Prop := ∀ j, j < 4 → w.cell? ⟨b0, j, none⟩ = some (.slice (adL a b c j) (pickL A B C j).length (cpL ca cb cc j))
theorem Four.below {w w' : World} {b0 : Nat} {a b c : Option Addr} {ca cb cc : Nat} {A B C : List Sp} (h : Four w b0 a b c ca cb cc A B C) (hb : Below w.heap.size w w') : Four w' b0 a b c ca cb cc A B C := fun j hj =>
  (hb.cell (World.block_lt_of_cell? w _ (h j hj))).trans (h j hj)
theorem Four.new (w : World) (a b c : Option Addr) (ca cb cc : Nat) (A B C : List Sp) (t : TypeId) : Four (w.alloc (.cells #[.slice none 0 0, .slice a A.length ca, .slice b B.length cb, .slice c C.length cc] t)) w.heap.size a b c ca cb cc A B C := fun j hj => by
  rw [cell_of_block (heap_alloc_new w _)]
  rcases (show j = 0 ∨ j = 1 ∨ j = 2 ∨ j = 3 by omega) with rfl | rfl | rfl | rfl <;> rfl
theorem ahead_get (A B C : List Sp) {i j : Nat} (hj : j < i) (hi : i ≤ 3) : (ahead A B i)[j]? = some (pickL A B C j) := by
  unfold ahead
  rw [List.getElem?_take_of_lt hj]
  rcases (show j = 0 ∨ j = 1 ∨ j = 2 by omega) with rfl | rfl | rfl <;> rfl
theorem ahead_len (A B : List Sp) {i : Nat} (hi : i ≤ 3) : (ahead A B i).length = i := by
  unfold ahead
  simp
  omega
theorem slice_four (W : World) (g i : Nat) (hi : 1 ≤ i) (hi3 : i ≤ 3) : (Instr.sliceAt 123 (.pointer (some ⟨g, 0, none⟩)) none (some (.int .i64 (i : Nat))) none).run Tryd.prog W = .ok (.slice (some ⟨g, 0, none⟩) i 4) W := by
  rcases (show i = 1 ∨ i = 2 ∨ i = 3 by omega) with rfl | rfl | rfl <;> kernel_rfl
def posI (f : Int) : Int := if f < 0 then 0 else f
theorem posI_pos {f : Int} (h : 0 ≤ f) : posI f = f := by unfold posI; rw [if_neg (by omega)]
set_option maxRecDepth 100000 in
set_option maxHeartbeats 2000000 in
theorem over_any (a b c : Option Addr) (ca cb cc : Nat) (A B C : List Sp) (i : Nat) (hi : 1 ≤ i) (hi3 : i ≤ 3) (w : World) (hA : Lst w a ca A) (hB : Lst w b cb B) (hC : Lst w c cc C) (hRA : Rgt A) (hRB : Rgt B) (hRC : Rgt C) (hG : GL w) :
    Calls Tryd.prog 74 #[lsV a b c A.length ca B.length cb C.length cc, .int .i64 (i : Nat)] w fun e w' => e = .returned (rowV (ruleA A B C 2 i)) ∧ Below w.heap.size w w' := by
  have hb0 : Below w.heap.size w (w.alloc (.cells #[.slice none 0 0, .slice a A.length ca, .slice b B.length cb, .slice c C.length cc] 123)) := (Below.refl w.heap.size w).alloc (Nat.le_refl _) _
  have hF := Four.new w a b c ca cb cc A B C 123
  have hL := four hA hB hC
  have hR : ∀ j, Rgt (pickL A B C j) := fun j => by
    unfold pickL
    split
    · exact hRA
    · exact hRB
    · exact hRC
    · exact rightA_zero rfl
  have HM := fun (j : Nat) (wx : World) (h1 : Lst wx (adL a b c i) (cpL ca cb cc i) (pickL A B C i)) (h2 : Lst wx (adL a b c j) (cpL ca cb cc j) (pickL A B C j)) (hg : GL wx) => meet_any (adL a b c i) (adL a b c j) (cpL ca cb cc i) (cpL ca cb cc j) (pickL A B C i) (pickL A B C j) wx h1.len h2.len h1.at' h2.at' (hR i) (hR j) hg
  have hL0 := fun j => (hL j).below hb0
  have hG0 := hG.below hb0
  obtain ⟨Rr, hRr⟩ : ∃ R, R = ruleA A B C 2 i := ⟨_, rfl⟩
  rw [← hRr]
  have HRr : Hid (Rr = overA (pickL A B C i) (ahead A B i)) := hRr
  have hAt := fun {j : Nat} (hj : j < i) => ahead_get A B C hj hi3
  have hAl := ahead_len A B hi3
  have hsl := fun W g => slice_four W g i hi hi3
  clear hRr hA hB hC hRA hRB hRC hG hL hR
  unfold lsV
  go_enter Tryd.func74, Tryd.ntmps74
  go_wp2_with fail
  have hFi := hF i (by omega)
  have hLi := hL0 i
  obtain ⟨W0, hW0⟩ : ∃ W0, W0 = w.alloc (.cells #[.slice none 0 0, .slice a A.length ca, .slice b B.length cb, .slice c C.length cc] 123) := ⟨_, rfl⟩
  rw [← hW0] at hb0 hF hL0 hG0 hFi hLi ⊢
  clear hW0
  obtain ⟨Bx, hBx⟩ : ∃ Bx, Bx = w.heap.size := ⟨_, rfl⟩
  have HBx : Hid (Bx = w.heap.size) := hBx
  rw [← hBx] at hF hFi ⊢
  clear hBx
  obtain ⟨X, hX⟩ : ∃ X, X = pickL A B C i := ⟨_, rfl⟩
  obtain ⟨ax, hax⟩ : ∃ ax, ax = adL a b c i := ⟨_, rfl⟩
  obtain ⟨cx, hcx⟩ : ∃ cx, cx = cpL ca cb cc i := ⟨_, rfl⟩
  rw [← hX] at HRr hLi HM hFi
  rw [← hax] at hLi HM hFi
  rw [← hcx] at hLi HM hFi
  clear hX hax hcx
  obtain ⟨L, hL⟩ : ∃ L, L = ahead A B i := ⟨_, rfl⟩
  rw [← hL] at HRr hAt hAl
  clear hL
  go_loopw [6, 7, 15] (fun f m v wr => ∃ (j : Nat) (F : Int), j ≤ i ∧ F = ovI X (L.take j) ∧ -1 ≤ F ∧ v = .int .i64 (j : Nat) ∧ f = .int .i64 (posI F) ∧ m = .bool (decide (0 ≤ F)) ∧ Below W0.heap.size W0 wr) (fun _ _ v _ => i - (intOf v).toNat)
  case atStart => exact ⟨0, -1, Nat.zero_le _, rfl, Int.le_refl _, rfl, rfl, rfl, Below.refl _ _⟩
  case round =>
    obtain ⟨j, F, hj, hF0, hF1, rfl, rfl, rfl, hbr⟩ := hrel
    have HF0 : Hid (F = ovI X (L.take j)) := hF0
    clear hF0
    by_cases hlt : j < i
    · have hFj := (hF j (by omega))
      have hFj := (hbr.cell (World.block_lt_of_cell? W0 _ hFj)).trans hFj
      have hFi := (hbr.cell (World.block_lt_of_cell? W0 _ hFi)).trans hFi
      have hLi := hLi.below hbr
      have hLj := (hL0 j).below hbr
      have hGr := hG0.below hbr
      have HM := HM j
      have hS := ovI_take (X := X) (hAt hlt)
      rw [← HF0.out] at hS
      unfold ovS at hS
      obtain ⟨Y, hY⟩ : ∃ Y, Y = pickL A B C j := ⟨_, rfl⟩
      obtain ⟨ay, hay⟩ : ∃ ay, ay = adL a b c j := ⟨_, rfl⟩
      obtain ⟨cy, hcy⟩ : ∃ cy, cy = cpL ca cb cc j := ⟨_, rfl⟩
      rw [← hY] at hLj HM hFj hS
      rw [← hay] at hLj HM hFj
      rw [← hcy] at hLj HM hFj
      clear hY hay hcy hF hL0 hG0 hAt hAl
      unfold meetV at HM
      obtain ⟨⟨p, m⟩, hm⟩ : ∃ m, m = meetA X Y := ⟨_, rfl⟩
      rw [← hm] at HM hS
      clear hm
      have HS : Hid (ovI X (L.take (j + 1)) = if m = true ∧ (F < 0 ∨ (p : Int) < F) then (p : Int) else F) := hS
      clear hS
      go_wp2_with fail
      refine (HM _ hLi hLj hGr).mono ?_
      rintro e w1 ⟨rfl, hb1⟩
      have B1 := hbr.trans (hb1.mono hbr.size)
      clear HM hLi hLj hGr hFi hFj hb1
      cases m with
      | false =>
        have h1 := HS.out
        simp only [Bool.false_eq_true, false_and, if_false] at h1
        have HS1 : Hid (F = ovI X (L.take (j + 1))) := h1.symm
        clear h1 HS
        go_wp2_with fail
        exact ⟨⟨j + 1, F, by omega, HS1.out, hF1, by go_num, rfl, rfl, B1⟩, by simp only [intOf]; omega⟩
      | true =>
        by_cases hn : F < 0
        · have h1 := HS.out
          simp only [true_and] at h1
          rw [if_pos (.inl hn)] at h1
          have HS1 : Hid ((p : Int) = ovI X (L.take (j + 1))) := h1.symm
          have hd : decide (0 ≤ F) = false := decide_eq_false (by omega)
          clear h1 HS
          go_wp2_with fail
          exact ⟨⟨j + 1, p, by omega, HS1.out, by omega, by go_num, by rw [posI_pos (by omega)], by simp, B1⟩, by simp only [intOf]; omega⟩
        · have hd : decide (0 ≤ F) = true := decide_eq_true (by omega)
          rw [posI_pos (by omega)]
          by_cases hp : (p : Int) < F
          · have h1 := HS.out
            simp only [true_and] at h1
            rw [if_pos (.inr hp)] at h1
            have HS1 : Hid ((p : Int) = ovI X (L.take (j + 1))) := h1.symm
            have hdp : decide ((p : Int) < F) = true := decide_eq_true hp
            clear h1 HS
            go_wp2_with fail
            exact ⟨⟨j + 1, p, by omega, HS1.out, by omega, by go_num, by rw [posI_pos (by omega)], by simp, B1⟩, by simp only [intOf]; omega⟩
          · have h1 := HS.out
            simp only [true_and] at h1
            rw [if_neg (by omega)] at h1
            have HS1 : Hid (F = ovI X (L.take (j + 1))) := h1.symm
            have hdp : decide ((p : Int) < F) = false := decide_eq_false hp
            clear h1 HS
            go_wp2_with fail
            exact ⟨⟨j + 1, F, by omega, HS1.out, hF1, by go_num, by rw [posI_pos (by omega)], by simp [hd], B1⟩, by simp only [intOf]; omega⟩
    · have hij : j = i := by omega
      subst hij
      have hT := HF0.out
      rw [List.take_of_length_le (by omega)] at hT
      have HT : Hid (F = ovI X L) := hT
      clear hT hF hL0 hG0 hAt hAl hFi hLi HM
      by_cases hn : F < 0
      · have hd : decide (0 ≤ F) = false := decide_eq_false (by omega)
        have hE : Hid (Rr = (0, 0)) := by show Rr = _; rw [HRr.out]; unfold overA; rw [← HT.out, if_pos hn]
        clear hn
        rw [hd]
        go_wp2_with fail
        exact bodyPost_ret (v := rowV (0, 0)) (by simp [results, Tryd.results74, go_sem, rowV]) rfl ⟨by rw [hE.out], hb0.trans (hbr.mono hb0.size)⟩
      · have hd : decide (0 ≤ F) = true := decide_eq_true (by omega)
        have hE : Hid (Rr = (F.toNat, 16)) := by show Rr = _; rw [HRr.out]; unfold overA; rw [← HT.out, if_neg hn]
        rw [posI_pos (by omega), hd]
        go_wp2_with fail
        exact bodyPost_ret (v := .tuple #[.int .i64 F, .int .i64 16]) (by simp [results, Tryd.results74, go_sem]) rfl ⟨by rw [hE.out]; simp [rowV]; omega, hb0.trans (hbr.mono hb0.size)⟩
end Go.Proofs.YtlnebbciefdpoaaDoor
