/- The document's own Check: its contract. -/
import Derived.Test.YtlnebbciefdpoaaDoorCNew
import Derived.Test.YtlnebbciefdpoaaDoorSRefMeet
namespace Go.Proofs.YtlnebbciefdpoaaDoor
open Go.RowKit Go.Sort Go.Joins
theorem ent_six (A B C : List Sp) : (ent A B C 6).2 = 0 := by
  show (overA A [[]]).2 = 0
  unfold overA
  rw [if_pos (by rw [ovI_nil]; show (-1 : Int) < 0; omega)]
theorem ahead_two (A B : List Sp) (X : List Sp) (i : Nat) : ovI X (ahead A B (i + 1)) = ovI X ([A, B].take i) := by
  unfold ahead
  rw [List.take_succ_cons, ovI_nil]
/-- The three lists, from none on. -/
def Trio (w : World) (g : Nat) (a b c : Option Addr) (ca cb cc : Nat) (A B C : List Sp) : Prop := ∀ j, j < 3 → w.cell? ⟨g, j, none⟩ = some (.slice (adL a b c (j + 1)) (pickL A B C (j + 1)).length (cpL ca cb cc (j + 1)))
theorem Trio.below {w w' : World} {g : Nat} {a b c : Option Addr} {ca cb cc : Nat} {A B C : List Sp} (h : Trio w g a b c ca cb cc A B C) (hb : Below w.heap.size w w') : Trio w' g a b c ca cb cc A B C := fun j hj =>
  (hb.cell (World.block_lt_of_cell? w _ (h j hj))).trans (h j hj)
theorem Trio.new (w : World) (a b c : Option Addr) (ca cb cc : Nat) (A B C : List Sp) (t : TypeId) : Trio (w.alloc (.cells #[.slice a A.length ca, .slice b B.length cb, .slice c C.length cc] t)) w.heap.size a b c ca cb cc A B C := fun j hj => by
  rw [cell_of_block (heap_alloc_new w _)]
  rcases (show j = 0 ∨ j = 1 ∨ j = 2 by omega) with rfl | rfl | rfl <;> rfl
theorem two_get (A B C : List Sp) {j : Nat} (hj : j < 2) : ([A, B] : List (List Sp))[j]? = some (pickL A B C (j + 1)) := by
  rcases (show j = 0 ∨ j = 1 by omega) with rfl | rfl <;> rfl
theorem rgt_pick {A B C : List Sp} (hA : Rgt A) (hB : Rgt B) (hC : Rgt C) (j : Nat) : Rgt (pickL A B C j) := by
  unfold pickL
  split
  · exact hA
  · exact hB
  · exact hC
  · exact rightA_zero rfl
set_option maxRecDepth 100000 in
set_option maxHeartbeats 8000000 in
theorem refCheck_any (a b c : Option Addr) (ca cb cc : Nat) (A B C : List Sp) (w : World) (hA : Lst w a ca A) (hB : Lst w b cb B) (hC : Lst w c cc C) :
    Calls Tryd.prog 58 #[.slice a A.length ca, .slice b B.length cb, .slice c C.length cc] w fun e w' => e = .returned (wrV (checkA A B C)) ∧ Below w.heap.size w w' := by
  obtain ⟨Y0, hY0⟩ : ∃ Y0, Y0 = w.alloc (.cells #[.int .i64 0, .int .i64 0, .int .i64 0] 116) := ⟨_, rfl⟩
  have s0 : Y0.heap.size = w.heap.size + 1 := by rw [hY0]; simp
  have b0 : Below w.heap.size w Y0 := by rw [hY0]; exact (Below.refl _ _).alloc (Nat.le_refl _) _
  have hW0 : Y0.heap[w.heap.size]? = some (.cells #[.int .i64 0, .int .i64 0, .int .i64 0] 116 (0, 0)) := by rw [hY0]; exact heap_alloc_new _ _
  obtain ⟨Y1, hY1⟩ : ∃ Y1, Y1 = Y0.alloc (.cells #[.slice a A.length ca, .slice b B.length cb, .slice c C.length cc] 31) := ⟨_, rfl⟩
  have b01 : Below Y0.heap.size Y0 Y1 := by rw [hY1]; exact (Below.refl _ _).alloc (Nat.le_refl _) _
  have b1 := b0.trans (b01.mono b0.size)
  have hW1 := (b01.block _ (by omega)).trans hW0
  have hT1 : Trio Y1 (w.heap.size + 1) a b c ca cb cc A B C := by rw [hY1, ← s0]; exact Trio.new _ _ _ _ _ _ _ _ _ _ _
  have hL1 := fun j => (four hA hB hC j).below b1
  have hA1 := hA.below b1
  have hB1 := hB.below b1
  have hC1 := hC.below b1
  have s1 : w.heap.size + 1 < Y1.heap.size := by rw [hY1]; simp; omega
  clear hA hB hC hW0 b0 b01
  go_enter Tryd.func58, Tryd.ntmps58
  go_wp2_with fail
  rw [← hY0, ← hY1]
  clear hY0 hY1 s0
  obtain ⟨z, hz⟩ : ∃ z, z = w.heap.size := ⟨_, rfl⟩
  have HZ : Hid (z = w.heap.size) := hz
  rw [← hz] at hT1 hW1 s1 ⊢
  clear hz
  go_loopw [8] (fun v wr => ∃ i : Nat, i ≤ 3 ∧ v = .int .i64 (i : Nat) ∧ Pass A B C i ∧ wr = Y1) (fun v _ => 3 - (intOf v).toNat)
  case atStart => exact ⟨0, by omega, rfl, Pass.zero A B C, rfl⟩
  case round =>
    obtain ⟨i, hi, rfl, hP, rfl⟩ := hrel
    by_cases h3 : i < 3
    · have hc := hT1 i h3
      have hent := ent_many A B C (q := i) h3
      have hbad := check_bad (q := i) (by omega) hP
      rw [hent, show i % 3 + 1 = i + 1 by omega] at hbad
      have hok := fun h => hP.succ (h : (ent A B C i).2 = 0)
      rw [hent] at hok
      obtain ⟨X, hX⟩ : ∃ X, X = pickL A B C (i + 1) := ⟨_, rfl⟩
      rw [← hX] at hc hbad hok
      clear hX hent
      have hd3 : decide ((i : Int) < 3) = true := decide_eq_true (by omega)
      have HP : Hid (Pass A B C i) := hP
      clear hP
      by_cases hm : 512 < X.length
      · have hE := hbad (by unfold manyA; rw [if_pos hm]; simp)
        unfold manyA at hE
        rw [if_pos hm] at hE
        have HE : Hid (checkA A B C = (4, i + 1, 512)) := hE
        have hdm : decide ((512 : Int) < (X.length : Int)) = true := decide_eq_true (by omega)
        have HW1 := hW1
        have x0 := cell_of_block hW1 (i := 0)
        have x1 := cell_of_block hW1 (i := 1)
        have x2 := cell_of_block hW1 (i := 2)
        have f0 := fun j => unfrozen_of_block hW1 j
        clear hE hbad hok hW1
        go_wp2_with fail
        have hfin := wr_set HW1 (u0 := .int .i64 4) (u1 := .int .i64 ((i : Int) + 1)) (u2 := .int .i64 512)
        have hBf := wr_below b1 (g := z) (u0 := .int .i64 4) (u1 := .int .i64 ((i : Int) + 1)) (u2 := .int .i64 512) (by rw [HZ.out]; omega)
        obtain ⟨Wf, hWf⟩ : ∃ Wf, Wf = (((wr.setCell ⟨z, 0, none⟩ (.int .i64 4)).setCell ⟨z, 1, none⟩ (.int .i64 ((i : Int) + 1))).setCell ⟨z, 2, none⟩ (.int .i64 512)) := ⟨_, rfl⟩
        rw [← hWf] at hfin hBf ⊢
        have y0 := cell_of_block hfin (i := 0)
        have y1 := cell_of_block hfin (i := 1)
        have y2 := cell_of_block hfin (i := 2)
        exact bodyPost_ret (v := .agg #[.int .i64 4, .int .i64 ((i : Int) + 1), .int .i64 512]) (by simp [results, Tryd.results58, go_sem, y0, y1, y2]) rfl ⟨by rw [HE.out]; rfl, hBf⟩
      · have hPn := hok (by unfold manyA; rw [if_neg hm])
        have HPN : Hid (Pass A B C (i + 1)) := hPn
        have hdm : decide ((512 : Int) < (X.length : Int)) = false := decide_eq_false (by omega)
        clear hPn hok hbad
        go_wp2_with fail
        exact ⟨⟨i + 1, by omega, by go_num, HPN.out, trivial⟩, by simp only [intOf]; omega⟩
    · have h3' : i = 3 := by omega
      subst h3'
      rw [show ((3 : Nat) : Int) = 3 from rfl]
      have HP : Hid (Pass A B C 3) := hP
      clear hP
      go_wp2_with fail
      obtain ⟨V, hV⟩ : ∃ V, V = wr := ⟨_, rfl⟩
      subst hV
      have hLV := hL1
      clear hL1
      go_loopw [9] (fun v wr => ∃ i : Nat, i ≤ 3 ∧ v = .int .i64 (i : Nat) ∧ Pass A B C (3 + i) ∧ Below V.heap.size V wr) (fun v _ => 3 - (intOf v).toNat)
      case atStart => exact ⟨0, by omega, rfl, HP.out, Below.refl _ _⟩
      case round =>
        clear HP
        obtain ⟨i, hi, rfl, hP, hbr⟩ := hrel
        by_cases h3 : i < 3
        · have hc := (hT1.below hbr) i h3
          have hent := ent_right A B C (q := i) h3
          have hbad := check_bad (q := 3 + i) (by omega) hP
          rw [hent, show (3 + i) % 3 + 1 = i + 1 by omega] at hbad
          have hok := fun h => hP.succ (h : (ent A B C (3 + i)).2 = 0)
          rw [hent] at hok
          have hLi := (hLV (i + 1)).below hbr
          have HR := refRight_any (adL a b c (i + 1)) (cpL ca cb cc (i + 1)) (pickL A B C (i + 1)) wr hLi.len hLi.at'
          obtain ⟨X, hX⟩ : ∃ X, X = pickL A B C (i + 1) := ⟨_, rfl⟩
          obtain ⟨ax, hax⟩ : ∃ ax, ax = adL a b c (i + 1) := ⟨_, rfl⟩
          obtain ⟨cx, hcx⟩ : ∃ cx, cx = cpL ca cb cc (i + 1) := ⟨_, rfl⟩
          rw [← hX] at hc hbad hok HR
          rw [← hax] at hc HR
          rw [← hcx] at hc HR
          clear hX hax hcx hent hLi
          unfold rowV at HR
          obtain ⟨⟨p, e⟩, hm⟩ : ∃ m, m = rightA X := ⟨_, rfl⟩
          rw [← hm] at HR hok hbad
          clear hm
          have HOK : Hid (e = 0 → Pass A B C (3 + i + 1)) := hok
          have HBAD : Hid (e ≠ 0 → checkA A B C = (e, i + 1, p)) := hbad
          have hd3 : decide ((i : Int) < 3) = true := decide_eq_true (by omega)
          have hWi := (hbr.block _ (Array.getElem?_eq_some_iff.1 hW1).1).trans hW1
          clear hP hok hbad
          go_wp2_with fail
          refine HR.mono ?_
          rintro r w1 ⟨rfl, hb1⟩
          have B1 := hbr.trans (hb1.mono hbr.size)
          have hWj := (hb1.block _ (Array.getElem?_eq_some_iff.1 hWi).1).trans hWi
          clear HR hc hWi hb1
          by_cases he : e = 0
          · have hPn := HOK.out he
            subst he
            have HPN : Hid (Pass A B C (3 + i + 1)) := hPn
            clear hPn HOK HBAD hWj
            go_wp2_with fail
            exact ⟨⟨i + 1, by omega, by go_num, HPN.out, B1⟩, by simp only [intOf]; omega⟩
          · have hE := HBAD.out he
            have HE : Hid (checkA A B C = (e, i + 1, p)) := hE
            have hne : ((e : Int) != 0) = true := by simp; omega
            have HW1 := hWj
            have x0 := cell_of_block HW1 (i := 0)
            have x1 := cell_of_block HW1 (i := 1)
            have x2 := cell_of_block HW1 (i := 2)
            have f0 := fun j => unfrozen_of_block HW1 j
            have hBB := b1.trans (B1.mono b1.size)
            clear he hE HOK HBAD hWj
            go_wp2_with fail
            have hfin := wr_set HW1 (u0 := .int .i64 (e : Nat)) (u1 := .int .i64 ((i : Int) + 1)) (u2 := .int .i64 (p : Nat))
            have hBf := wr_below hBB (g := z) (u0 := .int .i64 (e : Nat)) (u1 := .int .i64 ((i : Int) + 1)) (u2 := .int .i64 (p : Nat)) (by rw [HZ.out]; omega)
            obtain ⟨Wf, hWf⟩ : ∃ Wf, Wf = (((w1.setCell ⟨z, 0, none⟩ (.int .i64 (e : Nat))).setCell ⟨z, 1, none⟩ (.int .i64 ((i : Int) + 1))).setCell ⟨z, 2, none⟩ (.int .i64 (p : Nat))) := ⟨_, rfl⟩
            rw [← hWf] at hfin hBf ⊢
            have y0 := cell_of_block hfin (i := 0)
            have y1 := cell_of_block hfin (i := 1)
            have y2 := cell_of_block hfin (i := 2)
            exact bodyPost_ret (v := .agg #[.int .i64 (e : Nat), .int .i64 ((i : Int) + 1), .int .i64 (p : Nat)]) (by simp [results, Tryd.results58, go_sem, y0, y1, y2]) rfl ⟨by rw [HE.out]; rfl, hBf⟩
        · have h3' : i = 3 := by omega
          subst h3'
          rw [show ((3 : Nat) : Int) = 3 from rfl]
          have HP : Hid (Pass A B C 6) := hP
          clear hP
          have hRg := fun j => rgt_pick (HP.out.rgt (by omega)).1 (HP.out.rgt (by omega)).2.1 (HP.out.rgt (by omega)).2.2 j
          have hTv := hT1.below hbr
          have hLw := fun j => (hLV j).below hbr
          have hAw := hA1.below hbr
          have hBw := hB1.below hbr
          have hCw := hC1.below hbr
          have hWw := (hbr.block _ (Array.getElem?_eq_some_iff.1 hW1).1).trans hW1
          have b2 := b1.trans (hbr.mono b1.size)
          have s2 : z + 1 < wr.heap.size := Nat.lt_of_lt_of_le s1 hbr.size
          clear hT1 hLV hA1 hB1 hC1 hW1 b1 hbr s1
          go_wp2_with fail
          obtain ⟨U, hU⟩ : ∃ U, U = wr := ⟨_, rfl⟩
          subst hU
          go_loopw [12] (fun v wr => ∃ i : Nat, 1 ≤ i ∧ i ≤ 3 ∧ v = .int .i64 (i : Nat) ∧ Pass A B C (6 + i) ∧ Below U.heap.size U wr) (fun v _ => 3 - (intOf v).toNat)
          case atStart => exact ⟨1, by omega, by omega, rfl, HP.out.succ (ent_six A B C), Below.refl _ _⟩
          case round =>
            clear HP
            obtain ⟨i, hi1, hi, rfl, hP, hbr⟩ := hrel
            by_cases h3 : i < 3
            · have hent := ent_over A B C (q := i) h3
              have hbad := check_bad (q := 6 + i) (by omega) hP
              rw [hent, show (6 + i) % 3 + 1 = i + 1 by omega] at hbad
              have hok := fun h => hP.succ (h : (ent A B C (6 + i)).2 = 0)
              rw [hent] at hok
              unfold overA at hok hbad
              rw [ahead_two] at hok hbad
              have HM := fun (j : Nat) (wx : World) (h1 : Lst wx (adL a b c (i + 1)) (cpL ca cb cc (i + 1)) (pickL A B C (i + 1))) (h2 : Lst wx (adL a b c (j + 1)) (cpL ca cb cc (j + 1)) (pickL A B C (j + 1))) => refMeet_any (adL a b c (i + 1)) (adL a b c (j + 1)) (cpL ca cb cc (i + 1)) (cpL ca cb cc (j + 1)) (pickL A B C (i + 1)) (pickL A B C (j + 1)) wx h1.len h2.len h1.at' h2.at' (hRg (i + 1)) (hRg (j + 1))
              have hLi := hLw (i + 1)
              have hTi := hTv i h3
              obtain ⟨X, hX⟩ : ∃ X, X = pickL A B C (i + 1) := ⟨_, rfl⟩
              obtain ⟨ax, hax⟩ : ∃ ax, ax = adL a b c (i + 1) := ⟨_, rfl⟩
              obtain ⟨cx, hcx⟩ : ∃ cx, cx = cpL ca cb cc (i + 1) := ⟨_, rfl⟩
              rw [← hX] at hbad hok HM hLi hTi
              rw [← hax] at HM hLi hTi
              rw [← hcx] at HM hLi hTi
              clear hX hax hcx hent
              have HOK : Hid ((if ovI X ([A, B].take i) < 0 then ((0, 0) : Nat × Nat) else ((ovI X ([A, B].take i)).toNat, 16)).2 = 0 → Pass A B C (6 + i + 1)) := hok
              have HBAD : Hid ((if ovI X ([A, B].take i) < 0 then ((0, 0) : Nat × Nat) else ((ovI X ([A, B].take i)).toNat, 16)).2 ≠ 0 → checkA A B C = ((if ovI X ([A, B].take i) < 0 then ((0, 0) : Nat × Nat) else ((ovI X ([A, B].take i)).toNat, 16)).2, i + 1, (if ovI X ([A, B].take i) < 0 then ((0, 0) : Nat × Nat) else ((ovI X ([A, B].take i)).toNat, 16)).1)) := hbad
              have hd3 : decide ((i : Int) < 3) = true := decide_eq_true (by omega)
              clear hP hok hbad
              go_wp2_with fail
              go_loopw [13, 14] (fun f v wr => ∃ (j : Nat) (F : Int), j ≤ i ∧ F = ovI X ([A, B].take j) ∧ -1 ≤ F ∧ v = .int .i64 (j : Nat) ∧ f = .int .i64 F ∧ Below U.heap.size U wr) (fun _ v _ => i - (intOf v).toNat)
              case atStart => exact ⟨0, -1, Nat.zero_le _, rfl, Int.le_refl _, rfl, rfl, hbr⟩
              case round =>
                clear hbr
                obtain ⟨j, F, hj, hF0, hF1, rfl, rfl, hbr⟩ := hrel
                have HF0 : Hid (F = ovI X ([A, B].take j)) := hF0
                clear hF0
                by_cases hlt : j < i
                · have hc1 := hTv j (by omega)
                  have hc1 := (hbr.cell (World.block_lt_of_cell? U _ hc1)).trans hc1
                  have hc0 := (hbr.cell (World.block_lt_of_cell? U _ hTi)).trans hTi
                  have hLx := hLi.below hbr
                  have hLy := (hLw (j + 1)).below hbr
                  have HM := HM j
                  have hS := ovI_take (X := X) (two_get A B C (show j < 2 by omega))
                  rw [← HF0.out] at hS
                  unfold ovS at hS
                  obtain ⟨Y, hY⟩ : ∃ Y, Y = pickL A B C (j + 1) := ⟨_, rfl⟩
                  obtain ⟨ay, hay⟩ : ∃ ay, ay = adL a b c (j + 1) := ⟨_, rfl⟩
                  obtain ⟨cy, hcy⟩ : ∃ cy, cy = cpL ca cb cc (j + 1) := ⟨_, rfl⟩
                  rw [← hY] at hLy HM hc1 hS
                  rw [← hay] at hLy HM hc1
                  rw [← hcy] at hLy HM hc1
                  clear hY hay hcy
                  unfold meetV at HM
                  obtain ⟨⟨p, m⟩, hm⟩ : ∃ m, m = meetA X Y := ⟨_, rfl⟩
                  rw [← hm] at HM hS
                  clear hm
                  have HS : Hid (ovI X ([A, B].take (j + 1)) = if m = true ∧ (F < 0 ∨ (p : Int) < F) then (p : Int) else F) := hS
                  have HC := fun d os => HM (grow (redrawn wr d) os) (hLx.below (below_regrown wr d os)) (hLy.below (below_regrown wr d os))
                  dsimp only at HC
                  have k0 := cell_regrown hc0
                  have k1 := cell_regrown hc1
                  clear hS HM
                  go_wp2_with fail
                  refine wp_region_quiet_below (by kernel_rfl) (by kernel_rfl) ?_
                  repeat (go_big_quiet_step ((go_at_call 68; exact Calls.regrown_of (HC _ _))))
                  refine wpQuiet_nil ?_
                  intro W5 hw'
                  have hb5 : Below wr.heap.size wr W5 := by
                    obtain ⟨⟨dq, osq⟩, rfl⟩ := hw'
                    exact below_regrown _ _ _
                  have B1 := hbr.trans (hb5.mono hbr.size)
                  clear hw' HC k0 k1 hc0 hc1 hb5 hLx hLy
                  cases m with
                  | false =>
                    have h1 := HS.out
                    simp only [Bool.false_eq_true, false_and, if_false] at h1
                    have HS1 : Hid (F = ovI X ([A, B].take (j + 1))) := h1.symm
                    clear h1 HS
                    go_wp2_with fail
                    exact ⟨⟨j + 1, F, by omega, HS1.out, hF1, by go_num, rfl, B1⟩, by simp only [intOf]; omega⟩
                  | true =>
                    by_cases hn : F < 0
                    · have h1 := HS.out
                      simp only [true_and] at h1
                      rw [if_pos (.inl hn)] at h1
                      have HS1 : Hid ((p : Int) = ovI X ([A, B].take (j + 1))) := h1.symm
                      have hd : decide (F < 0) = true := decide_eq_true hn
                      clear h1 HS
                      go_wp2_with fail
                      exact ⟨⟨j + 1, p, by omega, HS1.out, by omega, by go_num, rfl, B1⟩, by simp only [intOf]; omega⟩
                    · have hd : decide (F < 0) = false := decide_eq_false hn
                      by_cases hp : (p : Int) < F
                      · have h1 := HS.out
                        simp only [true_and] at h1
                        rw [if_pos (.inr hp)] at h1
                        have HS1 : Hid ((p : Int) = ovI X ([A, B].take (j + 1))) := h1.symm
                        have hdp : decide ((p : Int) < F) = true := decide_eq_true hp
                        clear h1 HS
                        go_wp2_with fail
                        exact ⟨⟨j + 1, p, by omega, HS1.out, by omega, by go_num, rfl, B1⟩, by simp only [intOf]; omega⟩
                      · have h1 := HS.out
                        simp only [true_and] at h1
                        rw [if_neg (by omega)] at h1
                        have HS1 : Hid (F = ovI X ([A, B].take (j + 1))) := h1.symm
                        have hdp : decide ((p : Int) < F) = false := decide_eq_false hp
                        clear h1 HS
                        go_wp2_with fail
                        exact ⟨⟨j + 1, F, by omega, HS1.out, hF1, by go_num, rfl, B1⟩, by simp only [intOf]; omega⟩
                · have hij : j = i := by omega
                  subst hij
                  have hok := HOK.out
                  have hbad := HBAD.out
                  rw [← HF0.out] at hok hbad
                  clear HF0 HOK HBAD
                  by_cases hn : F < 0
                  · rw [if_pos hn] at hok
                    have HPN : Hid (Pass A B C (6 + j + 1)) := hok rfl
                    have hd : decide (0 ≤ F) = false := decide_eq_false (by omega)
                    clear hok hbad
                    go_wp2_with fail
                    exact ⟨⟨j + 1, by omega, by omega, by go_num, HPN.out, hbr⟩, by simp only [intOf]; omega⟩
                  · rw [if_neg hn] at hbad
                    have HE : Hid (checkA A B C = (16, j + 1, F.toNat)) := hbad (by simp)
                    have hd : decide (0 ≤ F) = true := decide_eq_true (by omega)
                    have hWj := (hbr.block _ (Array.getElem?_eq_some_iff.1 hWw).1).trans hWw
                    have hBB := b2.trans (hbr.mono b2.size)
                    have HW1 := hWj
                    have x0 := cell_of_block HW1 (i := 0)
                    have x1 := cell_of_block HW1 (i := 1)
                    have x2 := cell_of_block HW1 (i := 2)
                    have f0 := fun j => unfrozen_of_block HW1 j
                    clear hok hbad hWj
                    go_wp2_with fail
                    have hfin := wr_set HW1 (u0 := .int .i64 16) (u1 := .int .i64 ((j : Int) + 1)) (u2 := .int .i64 F)
                    have hBf := wr_below hBB (g := z) (u0 := .int .i64 16) (u1 := .int .i64 ((j : Int) + 1)) (u2 := .int .i64 F) (by rw [HZ.out]; omega)
                    obtain ⟨Wf, hWf⟩ : ∃ Wf, Wf = (((wr.setCell ⟨z, 0, none⟩ (.int .i64 16)).setCell ⟨z, 1, none⟩ (.int .i64 ((j : Int) + 1))).setCell ⟨z, 2, none⟩ (.int .i64 F)) := ⟨_, rfl⟩
                    rw [← hWf] at hfin hBf ⊢
                    have y0 := cell_of_block hfin (i := 0)
                    have y1 := cell_of_block hfin (i := 1)
                    have y2 := cell_of_block hfin (i := 2)
                    exact bodyPost_ret (v := .agg #[.int .i64 16, .int .i64 ((j : Int) + 1), .int .i64 F]) (by simp [results, Tryd.results58, go_sem, y0, y1, y2]) rfl ⟨by rw [HE.out]; simp [wrV]; omega, hBf⟩
            · have h3' : i = 3 := by omega
              subst h3'
              have hend := check_end hP
              unfold blankB at hend
              have H1 := fun wx (h : Lst wx c cc C) => refIn_any c cc C 32 wx h.len h.at'
              have H2 := fun wx (h : Lst wx a ca A) => refIn_any a ca A 39 wx h.len h.at'
              have H3 := fun wx (h : Lst wx b cb B) => refIn_any b cb B 39 wx h.len h.at'
              have H4 := fun wx (h : Lst wx c cc C) => refIn_any c cc C 39 wx h.len h.at'
              obtain ⟨u1, hu1⟩ : ∃ u, u = inB C 32 := ⟨_, rfl⟩
              obtain ⟨u2, hu2⟩ : ∃ u, u = inB A 39 := ⟨_, rfl⟩
              obtain ⟨u3, hu3⟩ : ∃ u, u = inB B 39 := ⟨_, rfl⟩
              obtain ⟨u4, hu4⟩ : ∃ u, u = inB C 39 := ⟨_, rfl⟩
              rw [← hu1] at H1 hend
              rw [← hu2] at H2 hend
              rw [← hu3] at H3 hend
              rw [← hu4] at H4 hend
              have HEND : Hid (checkA A B C = if (!u1 || u2 || u3 || u4) = true then (20, 3, 0) else (0, 0, 0)) := hend
              have hA0 := hAw.below hbr
              have hB0 := hBw.below hbr
              have hC0 := hCw.below hbr
              have hWj := (hbr.block _ (Array.getElem?_eq_some_iff.1 hWw).1).trans hWw
              have B0 := b2.trans (hbr.mono b2.size)
              clear hu1 hu2 hu3 hu4 hend hP hLw hTv hRg hAw hBw hCw hWw b2 hbr
              go_wp2_with fail
              refine (H1 _ hC0).mono ?_
              rintro e w1 ⟨rfl, hb1⟩
              have hA1 := hA0.below hb1
              have hB1 := hB0.below hb1
              have hC1 := hC0.below hb1
              have hW1 := (hb1.block _ (Array.getElem?_eq_some_iff.1 hWj).1).trans hWj
              have B1 := B0.trans (hb1.mono B0.size)
              clear H1 hA0 hB0 hC0 hWj B0 hb1
              cases u1 with
              | false =>
                have HE : Hid (checkA A B C = (20, 3, 0)) := by show _ = _; rw [HEND.out]; rfl
                have HW1 := hW1
                have x0 := cell_of_block HW1 (i := 0)
                have x1 := cell_of_block HW1 (i := 1)
                have x2 := cell_of_block HW1 (i := 2)
                have f0 := fun j => unfrozen_of_block HW1 j
                have hBB := B1
                clear HEND H2 H3 H4 hW1 hA1 hB1 hC1
                go_wp2_with fail
                have hfin := wr_set HW1 (u0 := .int .i64 20) (u1 := .int .i64 3) (u2 := .int .i64 0)
                have hBf := wr_below hBB (g := z) (u0 := .int .i64 20) (u1 := .int .i64 3) (u2 := .int .i64 0) (by rw [HZ.out]; omega)
                obtain ⟨Wf, hWf⟩ : ∃ Wf, Wf = (((w1.setCell ⟨z, 0, none⟩ (.int .i64 20)).setCell ⟨z, 1, none⟩ (.int .i64 3)).setCell ⟨z, 2, none⟩ (.int .i64 0)) := ⟨_, rfl⟩
                rw [← hWf] at hfin hBf ⊢
                have y0 := cell_of_block hfin (i := 0)
                have y1 := cell_of_block hfin (i := 1)
                have y2 := cell_of_block hfin (i := 2)
                exact bodyPost_ret (v := .agg #[.int .i64 20, .int .i64 3, .int .i64 0]) (by simp [results, Tryd.results58, go_sem, y0, y1, y2]) rfl ⟨by rw [HE.out]; rfl, hBf⟩
              | true =>
                go_wp2_with fail
                refine (H2 _ hA1).mono ?_
                rintro e w2 ⟨rfl, hb2⟩
                have hB2 := hB1.below hb2
                have hC2 := hC1.below hb2
                have hW2 := (hb2.block _ (Array.getElem?_eq_some_iff.1 hW1).1).trans hW1
                have B2 := B1.trans (hb2.mono B1.size)
                clear H2 hA1 hB1 hC1 hW1 B1 hb2
                cases u2 with
                | true =>
                  have HE : Hid (checkA A B C = (20, 3, 0)) := by show _ = _; rw [HEND.out]; rfl
                  have HW1 := hW2
                  have x0 := cell_of_block HW1 (i := 0)
                  have x1 := cell_of_block HW1 (i := 1)
                  have x2 := cell_of_block HW1 (i := 2)
                  have f0 := fun j => unfrozen_of_block HW1 j
                  have hBB := B2
                  clear HEND H3 H4 hW2 hB2 hC2
                  go_wp2_with fail
                  have hfin := wr_set HW1 (u0 := .int .i64 20) (u1 := .int .i64 3) (u2 := .int .i64 0)
                  have hBf := wr_below hBB (g := z) (u0 := .int .i64 20) (u1 := .int .i64 3) (u2 := .int .i64 0) (by rw [HZ.out]; omega)
                  obtain ⟨Wf, hWf⟩ : ∃ Wf, Wf = (((w2.setCell ⟨z, 0, none⟩ (.int .i64 20)).setCell ⟨z, 1, none⟩ (.int .i64 3)).setCell ⟨z, 2, none⟩ (.int .i64 0)) := ⟨_, rfl⟩
                  rw [← hWf] at hfin hBf ⊢
                  have y0 := cell_of_block hfin (i := 0)
                  have y1 := cell_of_block hfin (i := 1)
                  have y2 := cell_of_block hfin (i := 2)
                  exact bodyPost_ret (v := .agg #[.int .i64 20, .int .i64 3, .int .i64 0]) (by simp [results, Tryd.results58, go_sem, y0, y1, y2]) rfl ⟨by rw [HE.out]; rfl, hBf⟩
                | false =>
                  go_wp2_with fail
                  refine (H3 _ hB2).mono ?_
                  rintro e w3 ⟨rfl, hb3⟩
                  have hC3 := hC2.below hb3
                  have hW3 := (hb3.block _ (Array.getElem?_eq_some_iff.1 hW2).1).trans hW2
                  have B3 := B2.trans (hb3.mono B2.size)
                  clear H3 hB2 hC2 hW2 B2 hb3
                  cases u3 with
                  | true =>
                    have HE : Hid (checkA A B C = (20, 3, 0)) := by show _ = _; rw [HEND.out]; rfl
                    have HW1 := hW3
                    have x0 := cell_of_block HW1 (i := 0)
                    have x1 := cell_of_block HW1 (i := 1)
                    have x2 := cell_of_block HW1 (i := 2)
                    have f0 := fun j => unfrozen_of_block HW1 j
                    have hBB := B3
                    clear HEND H4 hW3 hC3
                    go_wp2_with fail
                    have hfin := wr_set HW1 (u0 := .int .i64 20) (u1 := .int .i64 3) (u2 := .int .i64 0)
                    have hBf := wr_below hBB (g := z) (u0 := .int .i64 20) (u1 := .int .i64 3) (u2 := .int .i64 0) (by rw [HZ.out]; omega)
                    obtain ⟨Wf, hWf⟩ : ∃ Wf, Wf = (((w3.setCell ⟨z, 0, none⟩ (.int .i64 20)).setCell ⟨z, 1, none⟩ (.int .i64 3)).setCell ⟨z, 2, none⟩ (.int .i64 0)) := ⟨_, rfl⟩
                    rw [← hWf] at hfin hBf ⊢
                    have y0 := cell_of_block hfin (i := 0)
                    have y1 := cell_of_block hfin (i := 1)
                    have y2 := cell_of_block hfin (i := 2)
                    exact bodyPost_ret (v := .agg #[.int .i64 20, .int .i64 3, .int .i64 0]) (by simp [results, Tryd.results58, go_sem, y0, y1, y2]) rfl ⟨by rw [HE.out]; rfl, hBf⟩
                  | false =>
                    go_wp2_with fail
                    refine (H4 _ hC3).mono ?_
                    rintro e w4 ⟨rfl, hb4⟩
                    have hW4 := (hb4.block _ (Array.getElem?_eq_some_iff.1 hW3).1).trans hW3
                    have hBB := B3.trans (hb4.mono B3.size)
                    clear H4 hC3 hW3 B3 hb4
                    cases u4 with
                    | true =>
                      have HE : Hid (checkA A B C = (20, 3, 0)) := by show _ = _; rw [HEND.out]; rfl
                      have HW1 := hW4
                      have x0 := cell_of_block HW1 (i := 0)
                      have x1 := cell_of_block HW1 (i := 1)
                      have x2 := cell_of_block HW1 (i := 2)
                      have f0 := fun j => unfrozen_of_block HW1 j
                      clear HEND hW4
                      go_wp2_with fail
                      have hfin := wr_set HW1 (u0 := .int .i64 20) (u1 := .int .i64 3) (u2 := .int .i64 0)
                      have hBf := wr_below hBB (g := z) (u0 := .int .i64 20) (u1 := .int .i64 3) (u2 := .int .i64 0) (by rw [HZ.out]; omega)
                      obtain ⟨Wf, hWf⟩ : ∃ Wf, Wf = (((w4.setCell ⟨z, 0, none⟩ (.int .i64 20)).setCell ⟨z, 1, none⟩ (.int .i64 3)).setCell ⟨z, 2, none⟩ (.int .i64 0)) := ⟨_, rfl⟩
                      rw [← hWf] at hfin hBf ⊢
                      have y0 := cell_of_block hfin (i := 0)
                      have y1 := cell_of_block hfin (i := 1)
                      have y2 := cell_of_block hfin (i := 2)
                      exact bodyPost_ret (v := .agg #[.int .i64 20, .int .i64 3, .int .i64 0]) (by simp [results, Tryd.results58, go_sem, y0, y1, y2]) rfl ⟨by rw [HE.out]; rfl, hBf⟩
                    | false =>
                      have HE : Hid (checkA A B C = (0, 0, 0)) := by show _ = _; rw [HEND.out]; rfl
                      have HW1 := hW4
                      have x0 := cell_of_block HW1 (i := 0)
                      have x1 := cell_of_block HW1 (i := 1)
                      have x2 := cell_of_block HW1 (i := 2)
                      have f0 := fun j => unfrozen_of_block HW1 j
                      clear HEND hW4
                      go_wp2_with fail
                      have hfin := wr_set HW1 (u0 := .int .i64 0) (u1 := .int .i64 0) (u2 := .int .i64 0)
                      have hBf := wr_below hBB (g := z) (u0 := .int .i64 0) (u1 := .int .i64 0) (u2 := .int .i64 0) (by rw [HZ.out]; omega)
                      obtain ⟨Wf, hWf⟩ : ∃ Wf, Wf = (((w4.setCell ⟨z, 0, none⟩ (.int .i64 0)).setCell ⟨z, 1, none⟩ (.int .i64 0)).setCell ⟨z, 2, none⟩ (.int .i64 0)) := ⟨_, rfl⟩
                      rw [← hWf] at hfin hBf ⊢
                      have y0 := cell_of_block hfin (i := 0)
                      have y1 := cell_of_block hfin (i := 1)
                      have y2 := cell_of_block hfin (i := 2)
                      exact bodyPost_ret (v := .agg #[.int .i64 0, .int .i64 0, .int .i64 0]) (by simp [results, Tryd.results58, go_sem, y0, y1, y2]) rfl ⟨by rw [HE.out]; rfl, hBf⟩
end Go.Proofs.YtlnebbciefdpoaaDoor
