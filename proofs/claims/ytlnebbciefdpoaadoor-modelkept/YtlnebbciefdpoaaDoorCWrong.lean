/- classes.lists.wrong: its contract. -/
import Derived.Test.YtlnebbciefdpoaaDoorCOfT
namespace Go.Proofs.YtlnebbciefdpoaaDoor
open Go.RowKit Go.Sort Go.Joins
/-- The value of a refusal. -/
def wrV (c : Nat × Nat × Nat) : Value := .agg #[.int .i64 (c.1 : Nat), .int .i64 (c.2.1 : Nat), .int .i64 (c.2.2 : Nat)]
/-- Three cells written. -/
theorem wr_set {W : World} {g : Nat} {v0 v1 v2 u0 u1 u2 : Value} {t : TypeId} (h : W.heap[g]? = some (.cells #[v0, v1, v2] t (0, 0))) :
    (((W.setCell ⟨g, 0, none⟩ u0).setCell ⟨g, 1, none⟩ u1).setCell ⟨g, 2, none⟩ u2).heap[g]? = some (.cells #[u0, u1, u2] t (0, 0)) := by
  have := block_setCell (i := 2) (block_setCell (i := 1) (block_setCell (i := 0) h u0) u1) u2
  simpa using this
theorem wr_below {w W : World} {B g : Nat} {u0 u1 u2 : Value} (h : Below B w W) (hg : B ≤ g) : Below B w (((W.setCell ⟨g, 0, none⟩ u0).setCell ⟨g, 1, none⟩ u1).setCell ⟨g, 2, none⟩ u2) :=
  ((h.setCell (p := ⟨g, 0, none⟩) hg _).setCell (p := ⟨g, 1, none⟩) hg _).setCell (p := ⟨g, 2, none⟩) hg _
set_option maxRecDepth 100000 in
set_option maxHeartbeats 8000000 in
theorem wrong_any (a b c : Option Addr) (ca cb cc : Nat) (A B C : List Sp) (w : World) (hA : Lst w a ca A) (hB : Lst w b cb B) (hC : Lst w c cc C) (hG : GL w) :
    Calls Tryd.prog 65 #[lsV a b c A.length ca B.length cb C.length cc] w fun e w' => e = .returned (wrV (checkA A B C)) ∧ Below w.heap.size w w' := by
  have bX := heap_alloc_new w (.cells #[.slice none 0 0, .slice a A.length ca, .slice b B.length cb, .slice c C.length cc] 123)
  obtain ⟨Y0, hY0⟩ : ∃ Y0, Y0 = w.alloc (.cells #[.slice none 0 0, .slice a A.length ca, .slice b B.length cb, .slice c C.length cc] 123) := ⟨_, rfl⟩
  have s0 : Y0.heap.size = w.heap.size + 1 := by rw [hY0]; simp
  have b0 : Below w.heap.size w Y0 := by rw [hY0]; exact (Below.refl _ _).alloc (Nat.le_refl _) _
  have hF : Four Y0 w.heap.size a b c ca cb cc A B C := by rw [hY0]; exact Four.new w a b c ca cb cc A B C 123
  obtain ⟨Y1, hY1⟩ : ∃ Y1, Y1 = Y0.alloc (.cells #[.int .i64 0, .int .i64 0, .int .i64 0] 105) := ⟨_, rfl⟩
  have s1 : Y1.heap.size = w.heap.size + 1 + 1 := by rw [hY1]; simp; omega
  have b1 : Below w.heap.size w Y1 := by rw [hY1]; exact b0.alloc b0.size _
  have hF1 : Four Y1 w.heap.size a b c ca cb cc A B C := by rw [hY1]; exact hF.below ((Below.refl _ _).alloc (Nat.le_refl _) _)
  have hW1 : Y1.heap[w.heap.size + 1]? = some (.cells #[.int .i64 0, .int .i64 0, .int .i64 0] 105 (0, 0)) := by rw [hY1, ← s0]; exact heap_alloc_new _ _
  obtain ⟨Y2, hY2⟩ : ∃ Y2, Y2 = Y1.alloc (.cells #[.func (.func 72) #[] #[], .func (.func 73) #[] #[], .func (.func 74) #[] #[]] 135) := ⟨_, rfl⟩
  have b2 : Below w.heap.size w Y2 := by rw [hY2]; exact b1.alloc b1.size _
  have b12 : Below Y1.heap.size Y1 Y2 := by rw [hY2]; exact (Below.refl _ _).alloc (Nat.le_refl _) _
  have hF2 := hF1.below b12
  have hW2 := (b12.block _ (by rw [s1]; omega)).trans hW1
  have hS2 : Y2.heap[w.heap.size + 1 + 1]? = some (.cells #[.func (.func 72) #[] #[], .func (.func 73) #[] #[], .func (.func 74) #[] #[]] 135 (0, 0)) := by rw [hY2, ← s1]; exact heap_alloc_new _ _
  have hA2 := hA.below b2
  have hB2 := hB.below b2
  have hC2 := hC.below b2
  have hG2 := hG.below b2
  have s2 : Y2.heap.size = w.heap.size + 1 + 1 + 1 := by rw [hY2]; simp; omega
  have hn1 : w.heap.size + 1 < Y2.heap.size := by omega
  clear hA hB hC hG bX hF hF1 hW1 b0 b1 b12
  unfold lsV
  go_enter Tryd.func65, Tryd.ntmps65
  go_wp2_with fail
  have HY : Hid (Y2 = Y1.alloc (.cells #[.func (.func 72) #[] #[], .func (.func 73) #[] #[], .func (.func 74) #[] #[]] 135)) := hY2
  rw [← hY0, ← hY1, ← hY2]
  clear hY0 hY1 hY2 s0 s1 HY
  obtain ⟨z, hz⟩ : ∃ z, z = w.heap.size := ⟨_, rfl⟩
  have HZ : Hid (z = w.heap.size) := hz
  rw [← hz] at hF2 hW2 hS2 hn1 ⊢
  clear hz s2
  go_loopw [11] (fun v wr => ∃ k : Nat, k ≤ 3 ∧ v = .int .i64 (k : Nat) ∧ Pass A B C (3 * k) ∧ Below Y2.heap.size Y2 wr) (fun v _ => 3 - (intOf v).toNat)
  case atStart => exact ⟨0, by omega, rfl, Pass.zero A B C, Below.refl _ _⟩
  case round =>
    obtain ⟨k, hk, rfl, hP, hbr⟩ := hrel
    have hS := (hbr.block _ (Array.getElem?_eq_some_iff.1 hS2).1).trans hS2
    have fk0 := cell_of_block hS (i := 0)
    have fk1 := cell_of_block hS (i := 1)
    have fk2 := cell_of_block hS (i := 2)
    clear hS hS2
    rcases (show k = 0 ∨ k = 1 ∨ k = 2 ∨ k = 3 by omega) with rfl | rfl | rfl | rfl
    · rw [show ((0 : Nat) : Int) = 0 from rfl]
      go_wp2_with fail
      clear fk0 fk1 fk2
      go_loopw [5] (fun v wi => ∃ i : Nat, 1 ≤ i ∧ i ≤ 4 ∧ v = .int .i64 (i : Nat) ∧ Pass A B C (3 * 0 + (i - 1)) ∧ Below Y2.heap.size Y2 wi) (fun v _ => 4 - (intOf v).toNat)
      case atStart => exact ⟨1, by omega, by omega, rfl, hP, hbr⟩
      case round =>
        clear hbr hP
        obtain ⟨i, hi, hi4, rfl, hPi, hbi⟩ := hrel
        by_cases hi3 : i ≤ 3
        · have HR := fun (wx : World) (h1 : Lst wx a ca A) (h2 : Lst wx b cb B) (h3 : Lst wx c cc C) (hg : GL wx) => tooMany_any a b c ca cb cc A B C i (by omega) wx
          have hent := ent_rule A B C (r := 0) hi hi3
          have hbad := check_bad (q := 3 * 0 + (i - 1)) (by omega) hPi
          rw [hent, show (3 * 0 + (i - 1)) % 3 + 1 = i by omega] at hbad
          have hok := fun h => hPi.succ (h : (ent A B C (3 * 0 + (i - 1))).2 = 0)
          rw [hent] at hok
          unfold rowV at HR
          obtain ⟨⟨p, e⟩, hm⟩ : ∃ m, m = ruleA A B C 0 i := ⟨_, rfl⟩
          rw [← hm] at HR hok hbad
          clear hm hent
          simp only at hok hbad
          have HOK : Hid (e = 0 → Pass A B C (3 * 0 + (i - 1) + 1)) := hok
          have HBAD : Hid (e ≠ 0 → checkA A B C = (e, i, p)) := hbad
          have HPI : Hid (Pass A B C (3 * 0 + (i - 1))) := hPi
          obtain ⟨q1, q2, q3, q0⟩ := (hF2.below hbi).one
          have hWi := (hbi.block _ (Array.getElem?_eq_some_iff.1 hW2).1).trans hW2
          have hd4 : decide ((i : Int) ≤ 3) = true := decide_eq_true (by omega)
          have HR := HR wr (hA2.below hbi) (hB2.below hbi) (hC2.below hbi) (hG2.below hbi)
          clear hok hbad hPi
          go_wp2_with fail
          refine HR.mono ?_
          rintro r w1 ⟨rfl, hb1⟩
          have B1 := hbi.trans (hb1.mono hbi.size)
          have hW1 := (hb1.block _ (Array.getElem?_eq_some_iff.1 hWi).1).trans hWi
          clear HR q1 q2 q3 q0 hb1 hWi
          by_cases he : e = 0
          · have hPn := HOK.out he
            subst he
            have HPN : Hid (Pass A B C (3 * 0 + (i - 1) + 1)) := hPn
            clear hPn HOK HBAD
            go_wp2_with fail
            exact ⟨⟨i + 1, by omega, by omega, by go_num, by have := HPN.out; rwa [show 3 * 0 + (i + 1 - 1) = 3 * 0 + (i - 1) + 1 by omega], B1⟩, by simp only [intOf]; omega⟩
          · have hE := HBAD.out he
            have HE : Hid (checkA A B C = (e, i, p)) := hE
            have hne : ((e : Int) != 0) = true := by simp; omega
            have f0 := fun j => unfrozen_of_block hW1 j
            have HW1 := hW1
            have x0 := cell_of_block hW1 (i := 0)
            have x1 := cell_of_block hW1 (i := 1)
            have x2 := cell_of_block hW1 (i := 2)
            clear he hE HOK HBAD hW1
            go_wp2_with fail
            have hfin := wr_set HW1 (u0 := .int .i64 (e : Nat)) (u1 := .int .i64 (i : Nat)) (u2 := .int .i64 (p : Nat))
            have hBf := wr_below (b2.trans (B1.mono b2.size)) (g := z + 1) (u0 := .int .i64 (e : Nat)) (u1 := .int .i64 (i : Nat)) (u2 := .int .i64 (p : Nat)) (by rw [HZ.out]; omega)
            obtain ⟨Wf, hWf⟩ : ∃ Wf, Wf = (((w1.setCell ⟨z + 1, 0, none⟩ (.int .i64 (e : Nat))).setCell ⟨z + 1, 1, none⟩ (.int .i64 (i : Nat))).setCell ⟨z + 1, 2, none⟩ (.int .i64 (p : Nat))) := ⟨_, rfl⟩
            rw [← hWf] at hfin hBf ⊢
            have y0 := cell_of_block hfin (i := 0)
            have y1 := cell_of_block hfin (i := 1)
            have y2 := cell_of_block hfin (i := 2)
            exact bodyPost_ret (v := wrV (e, i, p)) (by simp [results, Tryd.results65, go_sem, wrV, y0, y1, y2]) rfl ⟨by rw [HE.out], hBf⟩
        · have hi5 : i = 4 := by omega
          subst hi5
          have HPI : Hid (Pass A B C (3 * 0 + (4 - 1))) := hPi
          clear hPi
          go_wp2_with fail
          exact ⟨⟨0 + 1, by omega, by go_num, HPI.out, hbi⟩, by simp only [intOf]; omega⟩
    · rw [show ((1 : Nat) : Int) = 1 from rfl]
      go_wp2_with fail
      clear fk0 fk1 fk2
      go_loopw [5] (fun v wi => ∃ i : Nat, 1 ≤ i ∧ i ≤ 4 ∧ v = .int .i64 (i : Nat) ∧ Pass A B C (3 * 1 + (i - 1)) ∧ Below Y2.heap.size Y2 wi) (fun v _ => 4 - (intOf v).toNat)
      case atStart => exact ⟨1, by omega, by omega, rfl, hP, hbr⟩
      case round =>
        clear hbr hP
        obtain ⟨i, hi, hi4, rfl, hPi, hbi⟩ := hrel
        by_cases hi3 : i ≤ 3
        · have HR := fun (wx : World) (h1 : Lst wx a ca A) (h2 : Lst wx b cb B) (h3 : Lst wx c cc C) (hg : GL wx) => notRight_any a b c ca cb cc A B C i (by omega) wx h1 h2 h3 hg
          have hent := ent_rule A B C (r := 1) hi hi3
          have hbad := check_bad (q := 3 * 1 + (i - 1)) (by omega) hPi
          rw [hent, show (3 * 1 + (i - 1)) % 3 + 1 = i by omega] at hbad
          have hok := fun h => hPi.succ (h : (ent A B C (3 * 1 + (i - 1))).2 = 0)
          rw [hent] at hok
          unfold rowV at HR
          obtain ⟨⟨p, e⟩, hm⟩ : ∃ m, m = ruleA A B C 1 i := ⟨_, rfl⟩
          rw [← hm] at HR hok hbad
          clear hm hent
          simp only at hok hbad
          have HOK : Hid (e = 0 → Pass A B C (3 * 1 + (i - 1) + 1)) := hok
          have HBAD : Hid (e ≠ 0 → checkA A B C = (e, i, p)) := hbad
          have HPI : Hid (Pass A B C (3 * 1 + (i - 1))) := hPi
          obtain ⟨q1, q2, q3, q0⟩ := (hF2.below hbi).one
          have hWi := (hbi.block _ (Array.getElem?_eq_some_iff.1 hW2).1).trans hW2
          have hd4 : decide ((i : Int) ≤ 3) = true := decide_eq_true (by omega)
          have HR := HR wr (hA2.below hbi) (hB2.below hbi) (hC2.below hbi) (hG2.below hbi)
          clear hok hbad hPi
          go_wp2_with fail
          refine HR.mono ?_
          rintro r w1 ⟨rfl, hb1⟩
          have B1 := hbi.trans (hb1.mono hbi.size)
          have hW1 := (hb1.block _ (Array.getElem?_eq_some_iff.1 hWi).1).trans hWi
          clear HR q1 q2 q3 q0 hb1 hWi
          by_cases he : e = 0
          · have hPn := HOK.out he
            subst he
            have HPN : Hid (Pass A B C (3 * 1 + (i - 1) + 1)) := hPn
            clear hPn HOK HBAD
            go_wp2_with fail
            exact ⟨⟨i + 1, by omega, by omega, by go_num, by have := HPN.out; rwa [show 3 * 1 + (i + 1 - 1) = 3 * 1 + (i - 1) + 1 by omega], B1⟩, by simp only [intOf]; omega⟩
          · have hE := HBAD.out he
            have HE : Hid (checkA A B C = (e, i, p)) := hE
            have hne : ((e : Int) != 0) = true := by simp; omega
            have f0 := fun j => unfrozen_of_block hW1 j
            have HW1 := hW1
            have x0 := cell_of_block hW1 (i := 0)
            have x1 := cell_of_block hW1 (i := 1)
            have x2 := cell_of_block hW1 (i := 2)
            clear he hE HOK HBAD hW1
            go_wp2_with fail
            have hfin := wr_set HW1 (u0 := .int .i64 (e : Nat)) (u1 := .int .i64 (i : Nat)) (u2 := .int .i64 (p : Nat))
            have hBf := wr_below (b2.trans (B1.mono b2.size)) (g := z + 1) (u0 := .int .i64 (e : Nat)) (u1 := .int .i64 (i : Nat)) (u2 := .int .i64 (p : Nat)) (by rw [HZ.out]; omega)
            obtain ⟨Wf, hWf⟩ : ∃ Wf, Wf = (((w1.setCell ⟨z + 1, 0, none⟩ (.int .i64 (e : Nat))).setCell ⟨z + 1, 1, none⟩ (.int .i64 (i : Nat))).setCell ⟨z + 1, 2, none⟩ (.int .i64 (p : Nat))) := ⟨_, rfl⟩
            rw [← hWf] at hfin hBf ⊢
            have y0 := cell_of_block hfin (i := 0)
            have y1 := cell_of_block hfin (i := 1)
            have y2 := cell_of_block hfin (i := 2)
            exact bodyPost_ret (v := wrV (e, i, p)) (by simp [results, Tryd.results65, go_sem, wrV, y0, y1, y2]) rfl ⟨by rw [HE.out], hBf⟩
        · have hi5 : i = 4 := by omega
          subst hi5
          have HPI : Hid (Pass A B C (3 * 1 + (4 - 1))) := hPi
          clear hPi
          go_wp2_with fail
          exact ⟨⟨1 + 1, by omega, by go_num, HPI.out, hbi⟩, by simp only [intOf]; omega⟩
    · rw [show ((2 : Nat) : Int) = 2 from rfl]
      go_wp2_with fail
      clear fk0 fk1 fk2
      go_loopw [5] (fun v wi => ∃ i : Nat, 1 ≤ i ∧ i ≤ 4 ∧ v = .int .i64 (i : Nat) ∧ Pass A B C (3 * 2 + (i - 1)) ∧ Below Y2.heap.size Y2 wi) (fun v _ => 4 - (intOf v).toNat)
      case atStart => exact ⟨1, by omega, by omega, rfl, hP, hbr⟩
      case round =>
        clear hbr hP
        obtain ⟨i, hi, hi4, rfl, hPi, hbi⟩ := hrel
        by_cases hi3 : i ≤ 3
        · have HR := fun (wx : World) (h1 : Lst wx a ca A) (h2 : Lst wx b cb B) (h3 : Lst wx c cc C) (hg : GL wx) => over_any a b c ca cb cc A B C i hi hi3 wx h1 h2 h3 (hPi.rgt (by omega)).1 (hPi.rgt (by omega)).2.1 (hPi.rgt (by omega)).2.2 hg
          have hent := ent_rule A B C (r := 2) hi hi3
          have hbad := check_bad (q := 3 * 2 + (i - 1)) (by omega) hPi
          rw [hent, show (3 * 2 + (i - 1)) % 3 + 1 = i by omega] at hbad
          have hok := fun h => hPi.succ (h : (ent A B C (3 * 2 + (i - 1))).2 = 0)
          rw [hent] at hok
          unfold rowV at HR
          obtain ⟨⟨p, e⟩, hm⟩ : ∃ m, m = ruleA A B C 2 i := ⟨_, rfl⟩
          rw [← hm] at HR hok hbad
          clear hm hent
          simp only at hok hbad
          have HOK : Hid (e = 0 → Pass A B C (3 * 2 + (i - 1) + 1)) := hok
          have HBAD : Hid (e ≠ 0 → checkA A B C = (e, i, p)) := hbad
          have HPI : Hid (Pass A B C (3 * 2 + (i - 1))) := hPi
          obtain ⟨q1, q2, q3, q0⟩ := (hF2.below hbi).one
          have hWi := (hbi.block _ (Array.getElem?_eq_some_iff.1 hW2).1).trans hW2
          have hd4 : decide ((i : Int) ≤ 3) = true := decide_eq_true (by omega)
          have HR := HR wr (hA2.below hbi) (hB2.below hbi) (hC2.below hbi) (hG2.below hbi)
          clear hok hbad hPi
          go_wp2_with fail
          refine HR.mono ?_
          rintro r w1 ⟨rfl, hb1⟩
          have B1 := hbi.trans (hb1.mono hbi.size)
          have hW1 := (hb1.block _ (Array.getElem?_eq_some_iff.1 hWi).1).trans hWi
          clear HR q1 q2 q3 q0 hb1 hWi
          by_cases he : e = 0
          · have hPn := HOK.out he
            subst he
            have HPN : Hid (Pass A B C (3 * 2 + (i - 1) + 1)) := hPn
            clear hPn HOK HBAD
            go_wp2_with fail
            exact ⟨⟨i + 1, by omega, by omega, by go_num, by have := HPN.out; rwa [show 3 * 2 + (i + 1 - 1) = 3 * 2 + (i - 1) + 1 by omega], B1⟩, by simp only [intOf]; omega⟩
          · have hE := HBAD.out he
            have HE : Hid (checkA A B C = (e, i, p)) := hE
            have hne : ((e : Int) != 0) = true := by simp; omega
            have f0 := fun j => unfrozen_of_block hW1 j
            have HW1 := hW1
            have x0 := cell_of_block hW1 (i := 0)
            have x1 := cell_of_block hW1 (i := 1)
            have x2 := cell_of_block hW1 (i := 2)
            clear he hE HOK HBAD hW1
            go_wp2_with fail
            have hfin := wr_set HW1 (u0 := .int .i64 (e : Nat)) (u1 := .int .i64 (i : Nat)) (u2 := .int .i64 (p : Nat))
            have hBf := wr_below (b2.trans (B1.mono b2.size)) (g := z + 1) (u0 := .int .i64 (e : Nat)) (u1 := .int .i64 (i : Nat)) (u2 := .int .i64 (p : Nat)) (by rw [HZ.out]; omega)
            obtain ⟨Wf, hWf⟩ : ∃ Wf, Wf = (((w1.setCell ⟨z + 1, 0, none⟩ (.int .i64 (e : Nat))).setCell ⟨z + 1, 1, none⟩ (.int .i64 (i : Nat))).setCell ⟨z + 1, 2, none⟩ (.int .i64 (p : Nat))) := ⟨_, rfl⟩
            rw [← hWf] at hfin hBf ⊢
            have y0 := cell_of_block hfin (i := 0)
            have y1 := cell_of_block hfin (i := 1)
            have y2 := cell_of_block hfin (i := 2)
            exact bodyPost_ret (v := wrV (e, i, p)) (by simp [results, Tryd.results65, go_sem, wrV, y0, y1, y2]) rfl ⟨by rw [HE.out], hBf⟩
        · have hi5 : i = 4 := by omega
          subst hi5
          have HPI : Hid (Pass A B C (3 * 2 + (4 - 1))) := hPi
          clear hPi
          go_wp2_with fail
          exact ⟨⟨2 + 1, by omega, by go_num, HPI.out, hbi⟩, by simp only [intOf]; omega⟩
    · clear fk0 fk1 fk2
      have hPe : Pass A B C 9 := hP
      have hend := check_end hPe
      obtain ⟨r1, r2, r3⟩ := hPe.rgt (by omega)
      have hbl := blank_of hPe
      rw [← hbl] at hend
      have hf3 := hF2.below hbr
      obtain ⟨q1, q2, q3, q0⟩ := hf3.one
      have hWr := (hbr.block _ (Array.getElem?_eq_some_iff.1 hW2).1).trans hW2
      have ba : Below wr.heap.size wr (wr.alloc (.cells #[.slice none 0 0, .slice a A.length ca, .slice b B.length cb, .slice c C.length cc] 126)) := (Below.refl _ _).alloc (Nat.le_refl _) _
      have hT : TabAt (wr.alloc (.cells #[.slice none 0 0, .slice a A.length ca, .slice b B.length cb, .slice c C.length cc] 126)) wr.heap.size A B C := ⟨a, b, c, ca, cb, cc, (Four.new wr a b c ca cb cc A B C 126).tri, (hA2.below hbr).below ba, (hB2.below hbr).below ba, (hC2.below hbr).below ba⟩
      have hGa := (hG2.below hbr).below ba
      have H1 := fun wx (h : TabAt wx wr.heap.size A B C) (hg : GL wx) => of_any wr.heap.size A B C 32 wx h r1 r2 r3 hg
      have H2 := fun wx (h : TabAt wx wr.heap.size A B C) (hg : GL wx) => of_any wr.heap.size A B C 39 wx h r1 r2 r3 hg
      obtain ⟨k1, hk1⟩ : ∃ k, k = kindOf A B C 32 := ⟨_, rfl⟩
      obtain ⟨k2, hk2⟩ : ∃ k, k = kindOf A B C 39 := ⟨_, rfl⟩
      rw [← hk1] at H1 hend
      rw [← hk2] at H2 hend
      clear hk1 hk2 hbl hPe hP r1 r2 r3 hf3 hF2 hA2 hB2 hC2 hG2 hW2
      have HEND : Hid (checkA A B C = if (decide (k1 ≠ 3) || decide (k2 ≠ 4)) = true then (20, 3, 0) else (0, 0, 0)) := hend
      have hWa := (ba.block _ (Array.getElem?_eq_some_iff.1 hWr).1).trans hWr
      clear hend hWr
      go_wp2_with fail
      refine (H1 _ hT hGa).mono ?_
      rintro e w1 ⟨rfl, hb1⟩
      have hT1 := hT.below hb1
      have hG1 := hGa.below hb1
      have hW1 := (hb1.block _ (Array.getElem?_eq_some_iff.1 hWa).1).trans hWa
      have B1 := (hbr.trans (ba.mono hbr.size)).trans (hb1.mono (Nat.le_trans hbr.size ba.size))
      clear H1 hT hGa hWa hb1 ba q0 q1 q2 q3
      by_cases e1 : k1 = 3
      · subst e1
        have n1 : (((3 : Nat) : Int) != 3) = false := by simp
        go_wp2_with fail
        refine (H2 _ hT1 hG1).mono ?_
        rintro e w2 ⟨rfl, hb2⟩
        have hW2 := (hb2.block _ (Array.getElem?_eq_some_iff.1 hW1).1).trans hW1
        have B2 := B1.trans (hb2.mono B1.size)
        clear H2 hT1 hG1 hW1 hb2
        by_cases e2 : k2 = 4
        · subst e2
          have HE : Hid (checkA A B C = (0, 0, 0)) := by show _ = _; rw [HEND.out]; simp
          have n2 : (((4 : Nat) : Int) != 4) = false := by simp
          have f0 := fun j => unfrozen_of_block hW2 j
          have HW1 := hW2
          have x0 := cell_of_block hW2 (i := 0)
          have x1 := cell_of_block hW2 (i := 1)
          have x2 := cell_of_block hW2 (i := 2)
          clear HEND hW2 B1
          go_wp2_with fail
          have hfin := wr_set HW1 (u0 := .int .i64 0) (u1 := .int .i64 0) (u2 := .int .i64 0)
          have hBf := wr_below (b2.trans (B2.mono b2.size)) (g := z + 1) (u0 := .int .i64 0) (u1 := .int .i64 0) (u2 := .int .i64 0) (by rw [HZ.out]; omega)
          obtain ⟨Wf, hWf⟩ : ∃ Wf, Wf = (((w2.setCell ⟨z + 1, 0, none⟩ (.int .i64 0)).setCell ⟨z + 1, 1, none⟩ (.int .i64 0)).setCell ⟨z + 1, 2, none⟩ (.int .i64 0)) := ⟨_, rfl⟩
          rw [← hWf] at hfin hBf ⊢
          have y0 := cell_of_block hfin (i := 0)
          have y1 := cell_of_block hfin (i := 1)
          have y2 := cell_of_block hfin (i := 2)
          exact bodyPost_ret (v := wrV (0, 0, 0)) (by simp [results, Tryd.results65, go_sem, wrV, y0, y1, y2]) rfl ⟨by rw [HE.out], hBf⟩
        · have HE : Hid (checkA A B C = (20, 3, 0)) := by show _ = _; rw [HEND.out]; simp [e2]
          have n2 : ((k2 : Int) != 4) = true := by simp; omega
          have f0 := fun j => unfrozen_of_block hW2 j
          have HW1 := hW2
          have x0 := cell_of_block hW2 (i := 0)
          have x1 := cell_of_block hW2 (i := 1)
          have x2 := cell_of_block hW2 (i := 2)
          clear HEND hW2 e2 B1
          go_wp2_with fail
          have hfin := wr_set HW1 (u0 := .int .i64 20) (u1 := .int .i64 3) (u2 := .int .i64 0)
          have hBf := wr_below (b2.trans (B2.mono b2.size)) (g := z + 1) (u0 := .int .i64 20) (u1 := .int .i64 3) (u2 := .int .i64 0) (by rw [HZ.out]; omega)
          obtain ⟨Wf, hWf⟩ : ∃ Wf, Wf = (((w2.setCell ⟨z + 1, 0, none⟩ (.int .i64 20)).setCell ⟨z + 1, 1, none⟩ (.int .i64 3)).setCell ⟨z + 1, 2, none⟩ (.int .i64 0)) := ⟨_, rfl⟩
          rw [← hWf] at hfin hBf ⊢
          have y0 := cell_of_block hfin (i := 0)
          have y1 := cell_of_block hfin (i := 1)
          have y2 := cell_of_block hfin (i := 2)
          exact bodyPost_ret (v := wrV (20, 3, 0)) (by simp [results, Tryd.results65, go_sem, wrV, y0, y1, y2]) rfl ⟨by rw [HE.out], hBf⟩
      · have HE : Hid (checkA A B C = (20, 3, 0)) := by show _ = _; rw [HEND.out]; simp [e1]
        have n1 : ((k1 : Int) != 3) = true := by simp; omega
        have f0 := fun j => unfrozen_of_block hW1 j
        have HW1 := hW1
        have x0 := cell_of_block hW1 (i := 0)
        have x1 := cell_of_block hW1 (i := 1)
        have x2 := cell_of_block hW1 (i := 2)
        have B2 := B1
        clear HEND hW1 e1 H2 hT1 hG1
        go_wp2_with fail
        have hfin := wr_set HW1 (u0 := .int .i64 20) (u1 := .int .i64 3) (u2 := .int .i64 0)
        have hBf := wr_below (b2.trans (B2.mono b2.size)) (g := z + 1) (u0 := .int .i64 20) (u1 := .int .i64 3) (u2 := .int .i64 0) (by rw [HZ.out]; omega)
        obtain ⟨Wf, hWf⟩ : ∃ Wf, Wf = (((w1.setCell ⟨z + 1, 0, none⟩ (.int .i64 20)).setCell ⟨z + 1, 1, none⟩ (.int .i64 3)).setCell ⟨z + 1, 2, none⟩ (.int .i64 0)) := ⟨_, rfl⟩
        rw [← hWf] at hfin hBf ⊢
        have y0 := cell_of_block hfin (i := 0)
        have y1 := cell_of_block hfin (i := 1)
        have y2 := cell_of_block hfin (i := 2)
        exact bodyPost_ret (v := wrV (20, 3, 0)) (by simp [results, Tryd.results65, go_sem, wrV, y0, y1, y2]) rfl ⟨by rw [HE.out], hBf⟩
end Go.Proofs.YtlnebbciefdpoaaDoor
