/- classes.New: its contract. -/
import Derived.Test.YtlnebbciefdpoaaDoorCWrong
import Derived.Test.YtlnebbciefdpoaaDoorSClone
namespace Go.Proofs.YtlnebbciefdpoaaDoor
open Go.RowKit Go.Sort Go.Joins
/-- The four lists in a block. -/
def Tab4 (w : World) (g : Nat) (t : TypeId) (ad : Nat → Option Addr) (cp : Nat → Nat) (A B C : List Sp) : Prop :=
  w.heap[g]? = some (.cells #[.slice (ad 0) 0 (cp 0), .slice (ad 1) A.length (cp 1), .slice (ad 2) B.length (cp 2), .slice (ad 3) C.length (cp 3)] t (0, 0))
def upd {X : Type} (f : Nat → X) (i : Nat) (x : X) : Nat → X := fun j => if j = i then x else f j
theorem Tab4.cell {w : World} {g : Nat} {t : TypeId} {ad : Nat → Option Addr} {cp : Nat → Nat} {A B C : List Sp} (h : Tab4 w g t ad cp A B C) {j : Nat} (hj : j < 4) : w.cell? ⟨g, j, none⟩ = some (.slice (ad j) (pickL A B C j).length (cp j)) := by
  rw [cell_of_block h]
  rcases (show j = 0 ∨ j = 1 ∨ j = 2 ∨ j = 3 by omega) with rfl | rfl | rfl | rfl <;> rfl
theorem Tab4.set {w : World} {g : Nat} {t : TypeId} {ad : Nat → Option Addr} {cp : Nat → Nat} {A B C : List Sp} (h : Tab4 w g t ad cp A B C) {i : Nat} (hi : i < 4) (a : Option Addr) (c : Nat) :
    Tab4 (w.setCell ⟨g, i, none⟩ (.slice a (pickL A B C i).length c)) g t (upd ad i a) (upd cp i c) A B C := by
  have := block_setCell (i := i) h (.slice a (pickL A B C i).length c)
  unfold Tab4
  rw [this]
  rcases (show i = 0 ∨ i = 1 ∨ i = 2 ∨ i = 3 by omega) with rfl | rfl | rfl | rfl <;> rfl
theorem Tab4.below {w w' : World} {g : Nat} {t : TypeId} {ad : Nat → Option Addr} {cp : Nat → Nat} {A B C : List Sp} (h : Tab4 w g t ad cp A B C) (hb : Below w.heap.size w w') : Tab4 w' g t ad cp A B C :=
  (hb.block g (Array.getElem?_eq_some_iff.1 h).1).trans h
theorem Tab4.lt {w : World} {g : Nat} {t : TypeId} {ad : Nat → Option Addr} {cp : Nat → Nat} {A B C : List Sp} (h : Tab4 w g t ad cp A B C) : g < w.heap.size := (Array.getElem?_eq_some_iff.1 h).1
theorem SPR.low {w : World} {lo lo' : Nat} {a : Option Addr} {l : List Sp} (h : SPR w lo a l) (hl : lo' ≤ lo) : SPR w lo' a l := by
  rcases h with h | ⟨g, cur, h1, h2, h3, h4⟩
  · exact .inl h
  · exact .inr ⟨g, cur, h1, by omega, h3, h4⟩
theorem SPR.sps {w : World} {lo : Nat} {a : Option Addr} {l : List Sp} (h : SPR w lo a l) : SPS w a l := by
  rcases h with h | ⟨g, cur, h1, h2, h3, h4⟩
  · exact .inl h
  · refine .inr ⟨g, 0, h1, fun i x hx => ?_⟩
    obtain ⟨q0, q1⟩ := h4 i x hx
    exact ⟨by rw [cell_of_block h3, Nat.zero_add]; exact q0, by rw [cell_of_block h3, Nat.zero_add]; exact q1⟩
theorem SPR.away {w : World} {lo : Nat} {a : Option Addr} {l : List Sp} (h : SPR w lo a l) {b o : Nat} (hb : b < lo) (v : Value) : SPR (w.setCell ⟨b, o, none⟩ v) lo a l := by
  rcases h with h | ⟨g, cur, h1, h2, h3, h4⟩
  · exact .inl h
  · exact .inr ⟨g, cur, h1, h2, (Below.heap_setCell w ⟨b, o, none⟩ v g (fun e => by have e' : g = b := e; omega)).trans h3, h4⟩
/-- A list of one's own. -/
def OwnL (w : World) (lo : Nat) (a : Option Addr) (c : Nat) (l : List Sp) : Prop := l.length ≤ c ∧ c ≤ 9223372036854775807 ∧ SPR w lo a l
/-- A Table of one's own lies at block g: what it holds lies from lo on. -/
def OwnT (w : World) (lo g : Nat) (A B C : List Sp) : Prop := ∃ ad cp, lo ≤ g ∧ Tab4 w g 126 ad cp A B C ∧ ∀ j, j < 4 → OwnL w lo (ad j) (cp j) (pickL A B C j)
theorem OwnT.below {w w' : World} {lo g : Nat} {A B C : List Sp} (h : OwnT w lo g A B C) (hb : Below w.heap.size w w') : OwnT w' lo g A B C := by
  obtain ⟨ad, cp, h1, h2, h3⟩ := h
  exact ⟨ad, cp, h1, h2.below hb, fun j hj => ⟨(h3 j hj).1, (h3 j hj).2.1, (h3 j hj).2.2.below hb⟩⟩
theorem OwnT.low {w : World} {lo lo' g : Nat} {A B C : List Sp} (h : OwnT w lo g A B C) (hl : lo' ≤ lo) : OwnT w lo' g A B C := by
  obtain ⟨ad, cp, h1, h2, h3⟩ := h
  exact ⟨ad, cp, by omega, h2, fun j hj => ⟨(h3 j hj).1, (h3 j hj).2.1, (h3 j hj).2.2.low hl⟩⟩
theorem OwnT.away {w : World} {lo g : Nat} {A B C : List Sp} (h : OwnT w lo g A B C) {b o : Nat} (hb : b < lo) (v : Value) : OwnT (w.setCell ⟨b, o, none⟩ v) lo g A B C := by
  obtain ⟨ad, cp, h1, h2, h3⟩ := h
  exact ⟨ad, cp, h1, (Below.heap_setCell w ⟨b, o, none⟩ v g (fun e => by have e' : g = b := e; omega)).trans h2, fun j hj => ⟨(h3 j hj).1, (h3 j hj).2.1, (h3 j hj).2.2.away hb v⟩⟩
theorem OwnT.lt {w : World} {lo g : Nat} {A B C : List Sp} (h : OwnT w lo g A B C) : g < w.heap.size := by
  obtain ⟨ad, cp, h1, h2, h3⟩ := h
  exact h2.lt
theorem OwnT.tab {w : World} {lo g : Nat} {A B C : List Sp} (h : OwnT w lo g A B C) : TabAt w g A B C := by
  obtain ⟨ad, cp, h1, h2, h3⟩ := h
  have hl : ∀ j, j < 4 → Lst w (ad j) (cp j) (pickL A B C j) := fun j hj => ⟨(h3 j hj).1, (h3 j hj).2.1, (h3 j hj).2.2.sps⟩
  exact ⟨ad 1, ad 2, ad 3, cp 1, cp 2, cp 3, ⟨h2.cell (j := 1) (by omega), h2.cell (j := 2) (by omega), h2.cell (j := 3) (by omega)⟩, hl 1 (by omega), hl 2 (by omega), hl 3 (by omega)⟩
set_option maxRecDepth 100000 in
set_option maxHeartbeats 8000000 in
theorem new_any (a b c : Option Addr) (ca cb cc : Nat) (A B C : List Sp) (w : World) (hA : Lst w a ca A) (hB : Lst w b cb B) (hC : Lst w c cc C) (hG : GL w) :
    Calls Tryd.prog 51 #[.slice a A.length ca, .slice b B.length cb, .slice c C.length cc] w fun e w' => ∃ p, e = .returned (.tuple #[.pointer p, wrV (checkA A B C)]) ∧ ((checkA A B C).1 = 0 → ∃ g, p = some ⟨g, 0, none⟩ ∧ OwnT w' w.heap.size g A B C) ∧ ((checkA A B C).1 ≠ 0 → p = none) ∧ Below w.heap.size w w' := by
  have hps : (checkA A B C).1 = 0 → (A.length ≤ 512 ∧ B.length ≤ 512 ∧ C.length ≤ 512) ∧ checkA A B C = (0, 0, 0) := fun h => ⟨(check_pass h).1.len (by omega), check_zero h⟩
  have hR := fun wx (h1 : Lst wx a ca A) (h2 : Lst wx b cb B) (h3 : Lst wx c cc C) (hg : GL wx) => wrong_any a b c ca cb cc A B C wx h1 h2 h3 hg
  obtain ⟨⟨y, li, ro⟩, hy⟩ : ∃ y, y = checkA A B C := ⟨_, rfl⟩
  rw [← hy] at hps hR ⊢
  have HPS : Hid (y = 0 → (A.length ≤ 512 ∧ B.length ≤ 512 ∧ C.length ≤ 512) ∧ (y, li, ro) = (0, 0, 0)) := hps
  clear hy hps
  obtain ⟨Y0, hY0⟩ : ∃ Y0, Y0 = w.alloc (.cells #[.int .i64 0, .int .i64 0, .int .i64 0] 105) := ⟨_, rfl⟩
  have s0 : Y0.heap.size = w.heap.size + 1 := by rw [hY0]; simp
  have b0 : Below w.heap.size w Y0 := by rw [hY0]; exact (Below.refl _ _).alloc (Nat.le_refl _) _
  have hW0 : Y0.heap[w.heap.size]? = some (.cells #[.int .i64 0, .int .i64 0, .int .i64 0] 105 (0, 0)) := by rw [hY0]; exact heap_alloc_new _ _
  obtain ⟨Y1, hY1⟩ : ∃ Y1, Y1 = Y0.alloc (.cells #[.slice none 0 0, .slice a A.length ca, .slice b B.length cb, .slice c C.length cc] 123) := ⟨_, rfl⟩
  have s1 : Y1.heap.size = w.heap.size + 1 + 1 := by rw [hY1]; simp; omega
  have b01 : Below Y0.heap.size Y0 Y1 := by rw [hY1]; exact (Below.refl _ _).alloc (Nat.le_refl _) _
  have b1 := b0.trans (b01.mono b0.size)
  have hW1 := (b01.block _ (by omega)).trans hW0
  have hL1 : Tab4 Y1 (w.heap.size + 1) 123 (adL a b c) (cpL ca cb cc) A B C := by rw [hY1, ← s0]; exact heap_alloc_new _ _
  have hA1 := hA.below b1
  have hB1 := hB.below b1
  have hC1 := hC.below b1
  have hG1 := hG.below b1
  have hL0 := fun j => four hA hB hC j
  clear hA hB hC hG hW0 b0 b01
  unfold lsV at hR
  go_enter Tryd.func51, Tryd.ntmps51
  go_wp2_with fail
  rw [← hY0, ← hY1]
  clear hY0 hY1
  refine (hR _ hA1 hB1 hC1 hG1).mono ?_
  rintro e w1 ⟨rfl, hb1⟩
  have B1 := b1.trans (hb1.mono b1.size)
  have hW2 := (hb1.block _ (by omega)).trans hW1
  have hL2 := hL1.below hb1
  have hA2 := hA1.below hb1
  have hB2 := hB1.below hb1
  have hC2 := hC1.below hb1
  have hs1 : w.heap.size + 1 + 1 ≤ w1.heap.size := by have := hb1.size; omega
  clear hR hA1 hB1 hC1 hG1 hW1 hL1 b1 hb1 s0 s1
  unfold wrV
  have ba : Below w1.heap.size w1 (w1.alloc (.cells #[.int .i64 (y : Nat), .int .i64 (li : Nat), .int .i64 (ro : Nat)] 105)) := (Below.refl _ _).alloc (Nat.le_refl _) _
  have hW3 := (ba.block _ (Array.getElem?_eq_some_iff.1 hW2).1).trans hW2
  have hL3 := hL2.below ba
  have hA3 := hA2.below ba
  have hB3 := hB2.below ba
  have hC3 := hC2.below ba
  have B3 := B1.trans (ba.mono B1.size)
  have hN3 := heap_alloc_new w1 (.cells #[.int .i64 (y : Nat), .int .i64 (li : Nat), .int .i64 (ro : Nat)] 105)
  clear hW2 hL2 hA2 hB2 hC2 B1 ba
  by_cases h0 : y = 0
  · obtain ⟨hps, hz⟩ := HPS.out h0
    obtain ⟨rfl, rfl⟩ : li = 0 ∧ ro = 0 := by simpa [h0] using hz
    subst h0
    clear hz
    have hcl : ∀ j, j < 4 → (pickL A B C j).length ≤ 512 := fun j hj => by
      rcases (show j = 0 ∨ j = 1 ∨ j = 2 ∨ j = 3 by omega) with rfl | rfl | rfl | rfl
      · exact Nat.zero_le _
      · exact hps.1
      · exact hps.2.1
      · exact hps.2.2
    clear HPS hps hA3 hB3 hC3 hN3
    go_wp2_with fail
    obtain ⟨W3, hW3'⟩ : ∃ W3, W3 = w1.alloc (.cells #[.int .i64 0, .int .i64 0, .int .i64 0] 105) := ⟨_, rfl⟩
    have hs3 : w.heap.size + 1 + 1 < W3.heap.size := by rw [hW3']; simp; omega
    have e0 : w1.alloc (.cells #[.int .i64 ((0 : Nat) : Int), .int .i64 ((0 : Nat) : Int), .int .i64 ((0 : Nat) : Int)] 105) = W3 := hW3'.symm
    rw [e0] at hW3 hL3 B3
    rw [← hW3']
    clear hW3' e0
    obtain ⟨z, hz⟩ : ∃ z, z = w.heap.size := ⟨_, rfl⟩
    have HZ : Hid (z = w.heap.size) := hz
    rw [← hz] at hW3 hL3 hs3 ⊢
    clear hz hs1
    obtain ⟨g9, hg9⟩ : ∃ g9, g9 = w1.heap.size := ⟨_, rfl⟩
    rw [← hg9]
    clear hg9
    go_loopw [21] (fun v wr => ∃ (i : Nat) (ad : Nat → Option Addr) (cp : Nat → Nat), i ≤ 4 ∧ v = .int .i64 (i : Nat) ∧ Tab4 wr (z + 1) 123 ad cp A B C ∧ (∀ j, i ≤ j → ad j = adL a b c j ∧ cp j = cpL ca cb cc j) ∧ (∀ j, j < i → OwnL wr (z + 1 + 1) (ad j) (cp j) (pickL A B C j)) ∧ wr.heap[z]? = some (.cells #[.int .i64 0, .int .i64 0, .int .i64 0] 105 (0, 0)) ∧ Below z w wr ∧ W3.heap.size ≤ wr.heap.size) (fun v _ => 4 - (intOf v).toNat)
    case atStart => exact ⟨0, _, _, by omega, rfl, hL3, fun j _ => ⟨rfl, rfl⟩, fun j hj => absurd hj (Nat.not_lt_zero _), hW3, by rw [HZ.out]; exact B3, Nat.le_refl _⟩
    case round =>
      clear hW3 hL3 B3
      obtain ⟨i, ad, cp, hi, rfl, hT, hLs, hO, hW, hB, hsz⟩ := hrel
      by_cases h4 : i < 4
      · have hci := hT.cell h4
        have hLi : Lst wr (ad i) (cp i) (pickL A B C i) := by
          rw [(hLs i (Nat.le_refl _)).1, (hLs i (Nat.le_refl _)).2]
          exact (hL0 i).below (by rw [← HZ.out]; exact hB)
        have hcli := hcl i h4
        have hK := clone_any (ad i) (cp i) (pickL A B C i) wr (by omega) hLi.at'
        obtain ⟨X, hX⟩ : ∃ X, X = pickL A B C i := ⟨_, rfl⟩
        obtain ⟨ax, hax⟩ : ∃ ax, ax = ad i := ⟨_, rfl⟩
        obtain ⟨cx, hcx⟩ : ∃ cx, cx = cp i := ⟨_, rfl⟩
        rw [← hX] at hci hK
        rw [← hax] at hci hK
        rw [← hcx] at hci hK
        have HX : Hid (X = pickL A B C i) := hX
        have hd4 : decide ((i : Int) < 4) = true := decide_eq_true (by omega)
        have HL : Hid (∀ j, i ≤ j → ad j = adL a b c j ∧ cp j = cpL ca cb cc j) := hLs
        clear hX hax hcx hcli hcl hLi hLs hL0
        go_wp2_with fail
        refine hK.mono ?_
        rintro e w5 ⟨v, rfl, ⟨a', c', rfl, hc1, hc2, hsp⟩, hb5⟩
        have hT5 := hT.below hb5
        have hci5 := hT5.cell h4
        rw [← HX.out] at hci5
        have hf5 := fun j => unfrozen_of_block hT5 j
        have HT5 : Hid (Tab4 w5 (z + 1) 123 ad cp A B C) := hT5
        clear hT5 hT hci hK
        go_wp2_with fail
        have hT6 := HT5.out.set h4 a' c'
        rw [← HX.out] at hT6
        have hltz := HT5.out.lt
        refine ⟨⟨i + 1, upd ad i a', upd cp i c', by omega, by go_num, hT6, fun j hj => ?_, fun j hj => ?_, ?_, ?_, ?_⟩, by simp only [intOf]; omega⟩
        · unfold upd
          rw [if_neg (by omega), if_neg (by omega)]
          exact HL.out j (by omega)
        · by_cases e : j = i
          · subst e
            unfold upd
            rw [if_pos rfl, if_pos rfl, ← HX.out]
            exact ⟨hc1, hc2, (hsp.low (by omega)).away (by omega) _⟩
          · unfold upd
            rw [if_neg e, if_neg e]
            obtain ⟨o1, o2, o3⟩ := hO j (by omega)
            exact ⟨o1, o2, (o3.below hb5).away (by omega) _⟩
        · exact (Below.heap_setCell w5 ⟨z + 1, i, none⟩ _ z (fun e => by have e' : z = z + 1 := e; omega)).trans ((hb5.block z (by omega)).trans hW)
        · exact (hB.trans (hb5.mono (by rw [HZ.out]; exact hB.size))).setCell (p := ⟨z + 1, i, none⟩) (show z ≤ z + 1 by omega) _
        · simp; have := hb5.size; omega
      · have hi4 : i = 4 := by omega
        subst hi4
        have q0 : wr.cell? ⟨z + 1, 0, none⟩ = some (.slice (ad 0) 0 (cp 0)) := hT.cell (j := 0) (by omega)
        have q1 : wr.cell? ⟨z + 1, 1, none⟩ = some (.slice (ad 1) A.length (cp 1)) := hT.cell (j := 1) (by omega)
        have q2 : wr.cell? ⟨z + 1, 2, none⟩ = some (.slice (ad 2) B.length (cp 2)) := hT.cell (j := 2) (by omega)
        have q3 : wr.cell? ⟨z + 1, 3, none⟩ = some (.slice (ad 3) C.length (cp 3)) := hT.cell (j := 3) (by omega)
        have ba : Below wr.heap.size wr (wr.alloc (.cells #[.slice (ad 0) 0 (cp 0), .slice (ad 1) A.length (cp 1), .slice (ad 2) B.length (cp 2), .slice (ad 3) C.length (cp 3)] 126)) := (Below.refl _ _).alloc (Nat.le_refl _) _
        have hWa := (ba.block z (by omega)).trans hW
        have x0 := cell_of_block hWa (i := 0)
        have x1 := cell_of_block hWa (i := 1)
        have x2 := cell_of_block hWa (i := 2)
        have fz := fun j => unfrozen_of_block hWa j
        have hOT : OwnT (wr.alloc (.cells #[.slice (ad 0) 0 (cp 0), .slice (ad 1) A.length (cp 1), .slice (ad 2) B.length (cp 2), .slice (ad 3) C.length (cp 3)] 126)) (z + 1) wr.heap.size A B C :=
          ⟨ad, cp, by omega, heap_alloc_new _ _, fun j hj => ⟨(hO j hj).1, (hO j hj).2.1, ((hO j hj).2.2.below ba).low (by omega)⟩⟩
        have HWa : Hid ((wr.alloc (.cells #[.slice (ad 0) 0 (cp 0), .slice (ad 1) A.length (cp 1), .slice (ad 2) B.length (cp 2), .slice (ad 3) C.length (cp 3)] 126)).heap[z]? = some (.cells #[.int .i64 0, .int .i64 0, .int .i64 0] 105 (0, 0))) := hWa
        have HO : Hid (OwnT (wr.alloc (.cells #[.slice (ad 0) 0 (cp 0), .slice (ad 1) A.length (cp 1), .slice (ad 2) B.length (cp 2), .slice (ad 3) C.length (cp 3)] 126)) (z + 1) wr.heap.size A B C) := hOT
        clear hT hWa hW hOT hO hLs hL0 hcl
        go_wp2_with fail
        have hfin := wr_set HWa.out (u0 := .int .i64 0) (u1 := .int .i64 0) (u2 := .int .i64 0)
        have hBf := wr_below (hB.trans (ba.mono (by rw [HZ.out]; exact hB.size))) (g := z) (u0 := .int .i64 0) (u1 := .int .i64 0) (u2 := .int .i64 0) (Nat.le_refl _)
        have hOf := ((HO.out.away (b := z) (o := 0) (by omega) (.int .i64 0)).away (b := z) (o := 1) (by omega) (.int .i64 0)).away (b := z) (o := 2) (by omega) (.int .i64 0)
        clear x0 x1 x2 q0 q1 q2 q3 fz
        obtain ⟨W4, hW4⟩ : ∃ W4, W4 = (((wr.alloc (.cells #[.slice (ad 0) 0 (cp 0), .slice (ad 1) A.length (cp 1), .slice (ad 2) B.length (cp 2), .slice (ad 3) C.length (cp 3)] 126)).setCell ⟨z, 0, none⟩ (.int .i64 0)).setCell ⟨z, 1, none⟩ (.int .i64 0)).setCell ⟨z, 2, none⟩ (.int .i64 0) := ⟨_, rfl⟩
        rw [← hW4] at hfin hBf hOf ⊢
        clear hW4
        have y0 := cell_of_block hfin (i := 0)
        have y1 := cell_of_block hfin (i := 1)
        have y2 := cell_of_block hfin (i := 2)
        exact bodyPost_ret (v := .tuple #[.pointer (some ⟨wr.heap.size, 0, none⟩), .agg #[.int .i64 0, .int .i64 0, .int .i64 0]]) (by simp [results, Tryd.results51, go_sem, y0, y1, y2]) rfl ⟨_, rfl, ⟨_, rfl, hOf.low (by have := HZ.out; omega)⟩, by rw [← HZ.out]; exact hBf⟩
  · have hne : ((y : Int) != 0) = true := by simp; omega
    have n0 := cell_of_block hN3 (i := 0)
    have n1 := cell_of_block hN3 (i := 1)
    have n2 := cell_of_block hN3 (i := 2)
    have f0 := fun j => unfrozen_of_block hW3 j
    clear hA3 hB3 hC3 hL3 HPS
    have x0 := cell_of_block hW3 (i := 0)
    have x1 := cell_of_block hW3 (i := 1)
    have x2 := cell_of_block hW3 (i := 2)
    have HW3 := hW3
    clear hW3
    go_wp2_with fail
    go_region
    have hfin := wr_set HW3 (u0 := .int .i64 (y : Nat)) (u1 := .int .i64 (li : Nat)) (u2 := .int .i64 (ro : Nat))
    have hBf := (wr_below B3 (g := w.heap.size) (u0 := .int .i64 (y : Nat)) (u1 := .int .i64 (li : Nat)) (u2 := .int .i64 (ro : Nat)) (Nat.le_refl _)).drew
    clear x0 x1 x2 n0 n1 n2 f0 HW3 B3
    obtain ⟨W4, hW4⟩ : ∃ W4, W4 = ((((w1.alloc (.cells #[.int .i64 (y : Nat), .int .i64 (li : Nat), .int .i64 (ro : Nat)] 105)).setCell ⟨w.heap.size, 0, none⟩ (.int .i64 (y : Nat))).setCell ⟨w.heap.size, 1, none⟩ (.int .i64 (li : Nat))).setCell ⟨w.heap.size, 2, none⟩ (.int .i64 (ro : Nat))).drew := ⟨_, rfl⟩
    have hfin : W4.heap[w.heap.size]? = some (.cells #[.int .i64 (y : Nat), .int .i64 (li : Nat), .int .i64 (ro : Nat)] 105 (0, 0)) := by rw [hW4]; exact hfin
    rw [← hW4] at hBf ⊢
    clear hW4
    have y0 := cell_of_block hfin (i := 0)
    have y1 := cell_of_block hfin (i := 1)
    have y2 := cell_of_block hfin (i := 2)
    go_wp2_with fail
    exact bodyPost_ret (v := .tuple #[.pointer none, .agg #[.int .i64 (y : Nat), .int .i64 (li : Nat), .int .i64 (ro : Nat)]]) (by simp [results, Tryd.results51, go_sem, y0, y1, y2]) rfl ⟨_, rfl, fun h => absurd h h0, fun _ => rfl, hBf⟩
end Go.Proofs.YtlnebbciefdpoaaDoor
