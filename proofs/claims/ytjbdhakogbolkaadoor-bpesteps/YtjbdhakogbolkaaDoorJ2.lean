import Derived.Test.YtjbdhakogbolkaaDoorJ1
import Derived.Laws.CopyOwn
import Derived.Laws.MakeOwn
import Derived.Laws.OwnMore
import Derived.Deep.DeepMust
import Derived.Test.YtjbdhakogbolkaaDoorProg
import Derived.Lib.AppendStr
import Derived.Lib.SmallJoins
import Derived.WalkKit
import Derived.ProofKit
import Derived.OpenShut
import Derived.WalkSpells
import Derived.WalkLawsBesides
import Derived.RangeFuncBox
import Derived.OwnWalk
section
/- classes.lists.wrong: its contract. -/
namespace Go.Proofs.YtjbdhakogbolkaaDoor
open Go.RowKit Go.Sort Go.Joins
/-- The value of a refusal. -/
def wrV (c : Nat × Nat × Nat) : Value := .agg #[.int .i64 (c.1 : Nat), .int .i64 (c.2.1 : Nat), .int .i64 (c.2.2 : Nat)]
/-- Three cells written. -/
theorem wr_set {W : World} {g : Nat} {v0 v1 v2 u0 u1 u2 : Value} {t : TypeId} (h : W.heap[g]? = some (.cells #[v0, v1, v2] t (0, 0))) :
    (((W.setCell ⟨g, 0, none⟩ u0).setCell ⟨g, 1, none⟩ u1).setCell ⟨g, 2, none⟩ u2).heap[g]? = some (.cells #[u0, u1, u2] t (0, 0)) := by
  have := block_setCell (i := 2) (block_setCell (i := 1) (block_setCell (i := 0) h u0) u1) u2
  simpa using this
theorem wr_below {w W : World} {B g : Nat} {u0 u1 u2 : Value} (h : Below B w W) (hg : B ≤ g) : Below B w (((W.setCell ⟨g, 0, none⟩ u0).setCell ⟨g, 1, none⟩ u1).setCell ⟨g, 2, none⟩ u2) :=
  ((h.setCell (p := ⟨g, 0, none⟩) hg _).setCell (p := ⟨g, 1, none⟩) hg _).setCell (p := ⟨g, 2, none⟩) hg _
set_option maxRecDepth 100000 in
set_option maxHeartbeats 8000000 in
theorem wrong_any (a b c : Option Addr) (ca cb cc : Nat) (A B C : List Sp) (w : World) (hA : Lst w a ca A) (hB : Lst w b cb B) (hC : Lst w c cc C) (hG : GL w) :
    Calls Tryd.prog 60 #[lsV a b c A.length ca B.length cb C.length cc] w fun e w' => e = .returned (wrV (checkA A B C)) ∧ Below w.heap.size w w' := by
  have bX := heap_alloc_new w (.cells #[.slice none 0 0, .slice a A.length ca, .slice b B.length cb, .slice c C.length cc] 127)
  obtain ⟨Y0, hY0⟩ : ∃ Y0, Y0 = w.alloc (.cells #[.slice none 0 0, .slice a A.length ca, .slice b B.length cb, .slice c C.length cc] 127) := ⟨_, rfl⟩
  have s0 : Y0.heap.size = w.heap.size + 1 := by rw [hY0]; simp
  have b0 : Below w.heap.size w Y0 := by rw [hY0]; exact (Below.refl _ _).alloc (Nat.le_refl _) _
  have hF : Four Y0 w.heap.size a b c ca cb cc A B C := by rw [hY0]; exact Four.new w a b c ca cb cc A B C 127
  obtain ⟨Y1, hY1⟩ : ∃ Y1, Y1 = Y0.alloc (.cells #[.int .i64 0, .int .i64 0, .int .i64 0] 101) := ⟨_, rfl⟩
  have s1 : Y1.heap.size = w.heap.size + 1 + 1 := by rw [hY1]; simp; omega
  have b1 : Below w.heap.size w Y1 := by rw [hY1]; exact b0.alloc b0.size _
  have hF1 : Four Y1 w.heap.size a b c ca cb cc A B C := by rw [hY1]; exact hF.below ((Below.refl _ _).alloc (Nat.le_refl _) _)
  have hW1 : Y1.heap[w.heap.size + 1]? = some (.cells #[.int .i64 0, .int .i64 0, .int .i64 0] 101 (0, 0)) := by rw [hY1, ← s0]; exact heap_alloc_new _ _
  obtain ⟨Y2, hY2⟩ : ∃ Y2, Y2 = Y1.alloc (.cells #[.func (.func 79) #[] #[], .func (.func 80) #[] #[], .func (.func 81) #[] #[]] 157) := ⟨_, rfl⟩
  have b2 : Below w.heap.size w Y2 := by rw [hY2]; exact b1.alloc b1.size _
  have b12 : Below Y1.heap.size Y1 Y2 := by rw [hY2]; exact (Below.refl _ _).alloc (Nat.le_refl _) _
  have hF2 := hF1.below b12
  have hW2 := (b12.block _ (by rw [s1]; omega)).trans hW1
  have hS2 : Y2.heap[w.heap.size + 1 + 1]? = some (.cells #[.func (.func 79) #[] #[], .func (.func 80) #[] #[], .func (.func 81) #[] #[]] 157 (0, 0)) := by rw [hY2, ← s1]; exact heap_alloc_new _ _
  have hA2 := hA.below b2
  have hB2 := hB.below b2
  have hC2 := hC.below b2
  have hG2 := hG.below b2
  have s2 : Y2.heap.size = w.heap.size + 1 + 1 + 1 := by rw [hY2]; simp; omega
  have hn1 : w.heap.size + 1 < Y2.heap.size := by omega
  clear hA hB hC hG bX hF hF1 hW1 b0 b1 b12
  unfold lsV
  go_enter Tryd.func60, Tryd.ntmps60
  go_wp2_with fail
  have HY : Hid (Y2 = Y1.alloc (.cells #[.func (.func 79) #[] #[], .func (.func 80) #[] #[], .func (.func 81) #[] #[]] 157)) := hY2
  rw [← hY0, ← hY1, ← hY2]
  clear hY0 hY1 hY2 s0 s1 HY
  obtain ⟨z, hz⟩ : ∃ z, z = w.heap.size := ⟨_, rfl⟩
  have HZ : Hid (z = w.heap.size) := hz
  rw [← hz] at hF2 hW2 hS2 hn1 ⊢
  clear hz s2
  go_loopw [11] (fun v wr => ∃ k : Nat, k ≤ 3 ∧ v = .int .i64 (k : Nat) ∧ Pass A B C (3 * k) ∧ Below Y2.heap.size Y2 wr) (fun v _ => 3 - (intOf v).toNat)
  case atStart => exact ⟨0, by omega, rfl, Pass.zero A B C, Below.refl _ _⟩
  case round =>
    obtain ⟨k, hk, rfl, hP, hbr⟩ := hrel
    have hS := (hbr.block _ (Array.getElem?_eq_some_iff.1 hS2).1).trans hS2
    have fk0 := cell_of_block hS (i := 0)
    have fk1 := cell_of_block hS (i := 1)
    have fk2 := cell_of_block hS (i := 2)
    clear hS hS2
    rcases (show k = 0 ∨ k = 1 ∨ k = 2 ∨ k = 3 by omega) with rfl | rfl | rfl | rfl
    · rw [show ((0 : Nat) : Int) = 0 from rfl]
      go_wp2_with fail
      clear fk0 fk1 fk2
      go_loopw [5] (fun v wi => ∃ i : Nat, 1 ≤ i ∧ i ≤ 4 ∧ v = .int .i64 (i : Nat) ∧ Pass A B C (3 * 0 + (i - 1)) ∧ Below Y2.heap.size Y2 wi) (fun v _ => 4 - (intOf v).toNat)
      case atStart => exact ⟨1, by omega, by omega, rfl, hP, hbr⟩
      case round =>
        clear hbr hP
        obtain ⟨i, hi, hi4, rfl, hPi, hbi⟩ := hrel
        by_cases hi3 : i ≤ 3
        · have HR := fun (wx : World) (h1 : Lst wx a ca A) (h2 : Lst wx b cb B) (h3 : Lst wx c cc C) (hg : GL wx) => tooMany_any a b c ca cb cc A B C i (by omega) wx
          have hent := ent_rule A B C (r := 0) hi hi3
          have hbad := check_bad (q := 3 * 0 + (i - 1)) (by omega) hPi
          rw [hent, show (3 * 0 + (i - 1)) % 3 + 1 = i by omega] at hbad
          have hok := fun h => hPi.succ (h : (ent A B C (3 * 0 + (i - 1))).2 = 0)
          rw [hent] at hok
          unfold rowV at HR
          obtain ⟨⟨p, e⟩, hm⟩ : ∃ m, m = ruleA A B C 0 i := ⟨_, rfl⟩
          rw [← hm] at HR hok hbad
          clear hm hent
          simp only at hok hbad
          have HOK : Hid (e = 0 → Pass A B C (3 * 0 + (i - 1) + 1)) := hok
          have HBAD : Hid (e ≠ 0 → checkA A B C = (e, i, p)) := hbad
          have HPI : Hid (Pass A B C (3 * 0 + (i - 1))) := hPi
          obtain ⟨q1, q2, q3, q0⟩ := (hF2.below hbi).one
          have hWi := (hbi.block _ (Array.getElem?_eq_some_iff.1 hW2).1).trans hW2
          have hd4 : decide ((i : Int) ≤ 3) = true := decide_eq_true (by omega)
          have HR := HR wr (hA2.below hbi) (hB2.below hbi) (hC2.below hbi) (hG2.below hbi)
          clear hok hbad hPi
          go_wp2_with fail
          refine HR.mono ?_
          rintro r w1 ⟨rfl, hb1⟩
          have B1 := hbi.trans (hb1.mono hbi.size)
          have hW1 := (hb1.block _ (Array.getElem?_eq_some_iff.1 hWi).1).trans hWi
          clear HR q1 q2 q3 q0 hb1 hWi
          by_cases he : e = 0
          · have hPn := HOK.out he
            subst he
            have HPN : Hid (Pass A B C (3 * 0 + (i - 1) + 1)) := hPn
            clear hPn HOK HBAD
            go_wp2_with fail
            exact ⟨⟨i + 1, by omega, by omega, by go_num, by have := HPN.out; rwa [show 3 * 0 + (i + 1 - 1) = 3 * 0 + (i - 1) + 1 by omega], B1⟩, by simp only [intOf]; omega⟩
          · have hE := HBAD.out he
            have HE : Hid (checkA A B C = (e, i, p)) := hE
            have hne : ((e : Int) != 0) = true := by simp; omega
            have f0 := fun j => unfrozen_of_block hW1 j
            have HW1 := hW1
            have x0 := cell_of_block hW1 (i := 0)
            have x1 := cell_of_block hW1 (i := 1)
            have x2 := cell_of_block hW1 (i := 2)
            clear he hE HOK HBAD hW1
            go_wp2_with fail
            have hfin := wr_set HW1 (u0 := .int .i64 (e : Nat)) (u1 := .int .i64 (i : Nat)) (u2 := .int .i64 (p : Nat))
            have hBf := wr_below (b2.trans (B1.mono b2.size)) (g := z + 1) (u0 := .int .i64 (e : Nat)) (u1 := .int .i64 (i : Nat)) (u2 := .int .i64 (p : Nat)) (by rw [HZ.out]; omega)
            obtain ⟨Wf, hWf⟩ : ∃ Wf, Wf = (((w1.setCell ⟨z + 1, 0, none⟩ (.int .i64 (e : Nat))).setCell ⟨z + 1, 1, none⟩ (.int .i64 (i : Nat))).setCell ⟨z + 1, 2, none⟩ (.int .i64 (p : Nat))) := ⟨_, rfl⟩
            rw [← hWf] at hfin hBf ⊢
            have y0 := cell_of_block hfin (i := 0)
            have y1 := cell_of_block hfin (i := 1)
            have y2 := cell_of_block hfin (i := 2)
            exact bodyPost_ret (v := wrV (e, i, p)) (by simp [results, Tryd.results60, go_sem, wrV, y0, y1, y2]) rfl ⟨by rw [HE.out], hBf⟩
        · have hi5 : i = 4 := by omega
          subst hi5
          have HPI : Hid (Pass A B C (3 * 0 + (4 - 1))) := hPi
          clear hPi
          go_wp2_with fail
          exact ⟨⟨0 + 1, by omega, by go_num, HPI.out, hbi⟩, by simp only [intOf]; omega⟩
    · rw [show ((1 : Nat) : Int) = 1 from rfl]
      go_wp2_with fail
      clear fk0 fk1 fk2
      go_loopw [5] (fun v wi => ∃ i : Nat, 1 ≤ i ∧ i ≤ 4 ∧ v = .int .i64 (i : Nat) ∧ Pass A B C (3 * 1 + (i - 1)) ∧ Below Y2.heap.size Y2 wi) (fun v _ => 4 - (intOf v).toNat)
      case atStart => exact ⟨1, by omega, by omega, rfl, hP, hbr⟩
      case round =>
        clear hbr hP
        obtain ⟨i, hi, hi4, rfl, hPi, hbi⟩ := hrel
        by_cases hi3 : i ≤ 3
        · have HR := fun (wx : World) (h1 : Lst wx a ca A) (h2 : Lst wx b cb B) (h3 : Lst wx c cc C) (hg : GL wx) => notRight_any a b c ca cb cc A B C i (by omega) wx h1 h2 h3 hg
          have hent := ent_rule A B C (r := 1) hi hi3
          have hbad := check_bad (q := 3 * 1 + (i - 1)) (by omega) hPi
          rw [hent, show (3 * 1 + (i - 1)) % 3 + 1 = i by omega] at hbad
          have hok := fun h => hPi.succ (h : (ent A B C (3 * 1 + (i - 1))).2 = 0)
          rw [hent] at hok
          unfold rowV at HR
          obtain ⟨⟨p, e⟩, hm⟩ : ∃ m, m = ruleA A B C 1 i := ⟨_, rfl⟩
          rw [← hm] at HR hok hbad
          clear hm hent
          simp only at hok hbad
          have HOK : Hid (e = 0 → Pass A B C (3 * 1 + (i - 1) + 1)) := hok
          have HBAD : Hid (e ≠ 0 → checkA A B C = (e, i, p)) := hbad
          have HPI : Hid (Pass A B C (3 * 1 + (i - 1))) := hPi
          obtain ⟨q1, q2, q3, q0⟩ := (hF2.below hbi).one
          have hWi := (hbi.block _ (Array.getElem?_eq_some_iff.1 hW2).1).trans hW2
          have hd4 : decide ((i : Int) ≤ 3) = true := decide_eq_true (by omega)
          have HR := HR wr (hA2.below hbi) (hB2.below hbi) (hC2.below hbi) (hG2.below hbi)
          clear hok hbad hPi
          go_wp2_with fail
          refine HR.mono ?_
          rintro r w1 ⟨rfl, hb1⟩
          have B1 := hbi.trans (hb1.mono hbi.size)
          have hW1 := (hb1.block _ (Array.getElem?_eq_some_iff.1 hWi).1).trans hWi
          clear HR q1 q2 q3 q0 hb1 hWi
          by_cases he : e = 0
          · have hPn := HOK.out he
            subst he
            have HPN : Hid (Pass A B C (3 * 1 + (i - 1) + 1)) := hPn
            clear hPn HOK HBAD
            go_wp2_with fail
            exact ⟨⟨i + 1, by omega, by omega, by go_num, by have := HPN.out; rwa [show 3 * 1 + (i + 1 - 1) = 3 * 1 + (i - 1) + 1 by omega], B1⟩, by simp only [intOf]; omega⟩
          · have hE := HBAD.out he
            have HE : Hid (checkA A B C = (e, i, p)) := hE
            have hne : ((e : Int) != 0) = true := by simp; omega
            have f0 := fun j => unfrozen_of_block hW1 j
            have HW1 := hW1
            have x0 := cell_of_block hW1 (i := 0)
            have x1 := cell_of_block hW1 (i := 1)
            have x2 := cell_of_block hW1 (i := 2)
            clear he hE HOK HBAD hW1
            go_wp2_with fail
            have hfin := wr_set HW1 (u0 := .int .i64 (e : Nat)) (u1 := .int .i64 (i : Nat)) (u2 := .int .i64 (p : Nat))
            have hBf := wr_below (b2.trans (B1.mono b2.size)) (g := z + 1) (u0 := .int .i64 (e : Nat)) (u1 := .int .i64 (i : Nat)) (u2 := .int .i64 (p : Nat)) (by rw [HZ.out]; omega)
            obtain ⟨Wf, hWf⟩ : ∃ Wf, Wf = (((w1.setCell ⟨z + 1, 0, none⟩ (.int .i64 (e : Nat))).setCell ⟨z + 1, 1, none⟩ (.int .i64 (i : Nat))).setCell ⟨z + 1, 2, none⟩ (.int .i64 (p : Nat))) := ⟨_, rfl⟩
            rw [← hWf] at hfin hBf ⊢
            have y0 := cell_of_block hfin (i := 0)
            have y1 := cell_of_block hfin (i := 1)
            have y2 := cell_of_block hfin (i := 2)
            exact bodyPost_ret (v := wrV (e, i, p)) (by simp [results, Tryd.results60, go_sem, wrV, y0, y1, y2]) rfl ⟨by rw [HE.out], hBf⟩
        · have hi5 : i = 4 := by omega
          subst hi5
          have HPI : Hid (Pass A B C (3 * 1 + (4 - 1))) := hPi
          clear hPi
          go_wp2_with fail
          exact ⟨⟨1 + 1, by omega, by go_num, HPI.out, hbi⟩, by simp only [intOf]; omega⟩
    · rw [show ((2 : Nat) : Int) = 2 from rfl]
      go_wp2_with fail
      clear fk0 fk1 fk2
      go_loopw [5] (fun v wi => ∃ i : Nat, 1 ≤ i ∧ i ≤ 4 ∧ v = .int .i64 (i : Nat) ∧ Pass A B C (3 * 2 + (i - 1)) ∧ Below Y2.heap.size Y2 wi) (fun v _ => 4 - (intOf v).toNat)
      case atStart => exact ⟨1, by omega, by omega, rfl, hP, hbr⟩
      case round =>
        clear hbr hP
        obtain ⟨i, hi, hi4, rfl, hPi, hbi⟩ := hrel
        by_cases hi3 : i ≤ 3
        · have HR := fun (wx : World) (h1 : Lst wx a ca A) (h2 : Lst wx b cb B) (h3 : Lst wx c cc C) (hg : GL wx) => over_any a b c ca cb cc A B C i hi hi3 wx h1 h2 h3 (hPi.rgt (by omega)).1 (hPi.rgt (by omega)).2.1 (hPi.rgt (by omega)).2.2 hg
          have hent := ent_rule A B C (r := 2) hi hi3
          have hbad := check_bad (q := 3 * 2 + (i - 1)) (by omega) hPi
          rw [hent, show (3 * 2 + (i - 1)) % 3 + 1 = i by omega] at hbad
          have hok := fun h => hPi.succ (h : (ent A B C (3 * 2 + (i - 1))).2 = 0)
          rw [hent] at hok
          unfold rowV at HR
          obtain ⟨⟨p, e⟩, hm⟩ : ∃ m, m = ruleA A B C 2 i := ⟨_, rfl⟩
          rw [← hm] at HR hok hbad
          clear hm hent
          simp only at hok hbad
          have HOK : Hid (e = 0 → Pass A B C (3 * 2 + (i - 1) + 1)) := hok
          have HBAD : Hid (e ≠ 0 → checkA A B C = (e, i, p)) := hbad
          have HPI : Hid (Pass A B C (3 * 2 + (i - 1))) := hPi
          obtain ⟨q1, q2, q3, q0⟩ := (hF2.below hbi).one
          have hWi := (hbi.block _ (Array.getElem?_eq_some_iff.1 hW2).1).trans hW2
          have hd4 : decide ((i : Int) ≤ 3) = true := decide_eq_true (by omega)
          have HR := HR wr (hA2.below hbi) (hB2.below hbi) (hC2.below hbi) (hG2.below hbi)
          clear hok hbad hPi
          go_wp2_with fail
          refine HR.mono ?_
          rintro r w1 ⟨rfl, hb1⟩
          have B1 := hbi.trans (hb1.mono hbi.size)
          have hW1 := (hb1.block _ (Array.getElem?_eq_some_iff.1 hWi).1).trans hWi
          clear HR q1 q2 q3 q0 hb1 hWi
          by_cases he : e = 0
          · have hPn := HOK.out he
            subst he
            have HPN : Hid (Pass A B C (3 * 2 + (i - 1) + 1)) := hPn
            clear hPn HOK HBAD
            go_wp2_with fail
            exact ⟨⟨i + 1, by omega, by omega, by go_num, by have := HPN.out; rwa [show 3 * 2 + (i + 1 - 1) = 3 * 2 + (i - 1) + 1 by omega], B1⟩, by simp only [intOf]; omega⟩
          · have hE := HBAD.out he
            have HE : Hid (checkA A B C = (e, i, p)) := hE
            have hne : ((e : Int) != 0) = true := by simp; omega
            have f0 := fun j => unfrozen_of_block hW1 j
            have HW1 := hW1
            have x0 := cell_of_block hW1 (i := 0)
            have x1 := cell_of_block hW1 (i := 1)
            have x2 := cell_of_block hW1 (i := 2)
            clear he hE HOK HBAD hW1
            go_wp2_with fail
            have hfin := wr_set HW1 (u0 := .int .i64 (e : Nat)) (u1 := .int .i64 (i : Nat)) (u2 := .int .i64 (p : Nat))
            have hBf := wr_below (b2.trans (B1.mono b2.size)) (g := z + 1) (u0 := .int .i64 (e : Nat)) (u1 := .int .i64 (i : Nat)) (u2 := .int .i64 (p : Nat)) (by rw [HZ.out]; omega)
            obtain ⟨Wf, hWf⟩ : ∃ Wf, Wf = (((w1.setCell ⟨z + 1, 0, none⟩ (.int .i64 (e : Nat))).setCell ⟨z + 1, 1, none⟩ (.int .i64 (i : Nat))).setCell ⟨z + 1, 2, none⟩ (.int .i64 (p : Nat))) := ⟨_, rfl⟩
            rw [← hWf] at hfin hBf ⊢
            have y0 := cell_of_block hfin (i := 0)
            have y1 := cell_of_block hfin (i := 1)
            have y2 := cell_of_block hfin (i := 2)
            exact bodyPost_ret (v := wrV (e, i, p)) (by simp [results, Tryd.results60, go_sem, wrV, y0, y1, y2]) rfl ⟨by rw [HE.out], hBf⟩
        · have hi5 : i = 4 := by omega
          subst hi5
          have HPI : Hid (Pass A B C (3 * 2 + (4 - 1))) := hPi
          clear hPi
          go_wp2_with fail
          exact ⟨⟨2 + 1, by omega, by go_num, HPI.out, hbi⟩, by simp only [intOf]; omega⟩
    · clear fk0 fk1 fk2
      have hPe : Pass A B C 9 := hP
      have hend := check_end hPe
      obtain ⟨r1, r2, r3⟩ := hPe.rgt (by omega)
      have hbl := blank_of hPe
      rw [← hbl] at hend
      have hf3 := hF2.below hbr
      obtain ⟨q1, q2, q3, q0⟩ := hf3.one
      have hWr := (hbr.block _ (Array.getElem?_eq_some_iff.1 hW2).1).trans hW2
      have ba : Below wr.heap.size wr (wr.alloc (.cells #[.slice none 0 0, .slice a A.length ca, .slice b B.length cb, .slice c C.length cc] 131)) := (Below.refl _ _).alloc (Nat.le_refl _) _
      have hT : TabAt (wr.alloc (.cells #[.slice none 0 0, .slice a A.length ca, .slice b B.length cb, .slice c C.length cc] 131)) wr.heap.size A B C := ⟨a, b, c, ca, cb, cc, (Four.new wr a b c ca cb cc A B C 131).tri, (hA2.below hbr).below ba, (hB2.below hbr).below ba, (hC2.below hbr).below ba⟩
      have hGa := (hG2.below hbr).below ba
      have H1 := fun wx (h : TabAt wx wr.heap.size A B C) (hg : GL wx) => of_any wr.heap.size A B C 32 wx h r1 r2 r3 hg
      have H2 := fun wx (h : TabAt wx wr.heap.size A B C) (hg : GL wx) => of_any wr.heap.size A B C 39 wx h r1 r2 r3 hg
      obtain ⟨k1, hk1⟩ : ∃ k, k = kindOf A B C 32 := ⟨_, rfl⟩
      obtain ⟨k2, hk2⟩ : ∃ k, k = kindOf A B C 39 := ⟨_, rfl⟩
      rw [← hk1] at H1 hend
      rw [← hk2] at H2 hend
      clear hk1 hk2 hbl hPe hP r1 r2 r3 hf3 hF2 hA2 hB2 hC2 hG2 hW2
      have HEND : Hid (checkA A B C = if (decide (k1 ≠ 3) || decide (k2 ≠ 4)) = true then (20, 3, 0) else (0, 0, 0)) := hend
      have hWa := (ba.block _ (Array.getElem?_eq_some_iff.1 hWr).1).trans hWr
      clear hend hWr
      go_wp2_with fail
      refine (H1 _ hT hGa).mono ?_
      rintro e w1 ⟨rfl, hb1⟩
      have hT1 := hT.below hb1
      have hG1 := hGa.below hb1
      have hW1 := (hb1.block _ (Array.getElem?_eq_some_iff.1 hWa).1).trans hWa
      have B1 := (hbr.trans (ba.mono hbr.size)).trans (hb1.mono (Nat.le_trans hbr.size ba.size))
      clear H1 hT hGa hWa hb1 ba q0 q1 q2 q3
      by_cases e1 : k1 = 3
      · subst e1
        have n1 : (((3 : Nat) : Int) != 3) = false := by simp
        go_wp2_with fail
        refine (H2 _ hT1 hG1).mono ?_
        rintro e w2 ⟨rfl, hb2⟩
        have hW2 := (hb2.block _ (Array.getElem?_eq_some_iff.1 hW1).1).trans hW1
        have B2 := B1.trans (hb2.mono B1.size)
        clear H2 hT1 hG1 hW1 hb2
        by_cases e2 : k2 = 4
        · subst e2
          have HE : Hid (checkA A B C = (0, 0, 0)) := by show _ = _; rw [HEND.out]; simp
          have n2 : (((4 : Nat) : Int) != 4) = false := by simp
          have f0 := fun j => unfrozen_of_block hW2 j
          have HW1 := hW2
          have x0 := cell_of_block hW2 (i := 0)
          have x1 := cell_of_block hW2 (i := 1)
          have x2 := cell_of_block hW2 (i := 2)
          clear HEND hW2 B1
          go_wp2_with fail
          have hfin := wr_set HW1 (u0 := .int .i64 0) (u1 := .int .i64 0) (u2 := .int .i64 0)
          have hBf := wr_below (b2.trans (B2.mono b2.size)) (g := z + 1) (u0 := .int .i64 0) (u1 := .int .i64 0) (u2 := .int .i64 0) (by rw [HZ.out]; omega)
          obtain ⟨Wf, hWf⟩ : ∃ Wf, Wf = (((w2.setCell ⟨z + 1, 0, none⟩ (.int .i64 0)).setCell ⟨z + 1, 1, none⟩ (.int .i64 0)).setCell ⟨z + 1, 2, none⟩ (.int .i64 0)) := ⟨_, rfl⟩
          rw [← hWf] at hfin hBf ⊢
          have y0 := cell_of_block hfin (i := 0)
          have y1 := cell_of_block hfin (i := 1)
          have y2 := cell_of_block hfin (i := 2)
          exact bodyPost_ret (v := wrV (0, 0, 0)) (by simp [results, Tryd.results60, go_sem, wrV, y0, y1, y2]) rfl ⟨by rw [HE.out], hBf⟩
        · have HE : Hid (checkA A B C = (20, 3, 0)) := by show _ = _; rw [HEND.out]; simp [e2]
          have n2 : ((k2 : Int) != 4) = true := by simp; omega
          have f0 := fun j => unfrozen_of_block hW2 j
          have HW1 := hW2
          have x0 := cell_of_block hW2 (i := 0)
          have x1 := cell_of_block hW2 (i := 1)
          have x2 := cell_of_block hW2 (i := 2)
          clear HEND hW2 e2 B1
          go_wp2_with fail
          have hfin := wr_set HW1 (u0 := .int .i64 20) (u1 := .int .i64 3) (u2 := .int .i64 0)
          have hBf := wr_below (b2.trans (B2.mono b2.size)) (g := z + 1) (u0 := .int .i64 20) (u1 := .int .i64 3) (u2 := .int .i64 0) (by rw [HZ.out]; omega)
          obtain ⟨Wf, hWf⟩ : ∃ Wf, Wf = (((w2.setCell ⟨z + 1, 0, none⟩ (.int .i64 20)).setCell ⟨z + 1, 1, none⟩ (.int .i64 3)).setCell ⟨z + 1, 2, none⟩ (.int .i64 0)) := ⟨_, rfl⟩
          rw [← hWf] at hfin hBf ⊢
          have y0 := cell_of_block hfin (i := 0)
          have y1 := cell_of_block hfin (i := 1)
          have y2 := cell_of_block hfin (i := 2)
          exact bodyPost_ret (v := wrV (20, 3, 0)) (by simp [results, Tryd.results60, go_sem, wrV, y0, y1, y2]) rfl ⟨by rw [HE.out], hBf⟩
      · have HE : Hid (checkA A B C = (20, 3, 0)) := by show _ = _; rw [HEND.out]; simp [e1]
        have n1 : ((k1 : Int) != 3) = true := by simp; omega
        have f0 := fun j => unfrozen_of_block hW1 j
        have HW1 := hW1
        have x0 := cell_of_block hW1 (i := 0)
        have x1 := cell_of_block hW1 (i := 1)
        have x2 := cell_of_block hW1 (i := 2)
        have B2 := B1
        clear HEND hW1 e1 H2 hT1 hG1
        go_wp2_with fail
        have hfin := wr_set HW1 (u0 := .int .i64 20) (u1 := .int .i64 3) (u2 := .int .i64 0)
        have hBf := wr_below (b2.trans (B2.mono b2.size)) (g := z + 1) (u0 := .int .i64 20) (u1 := .int .i64 3) (u2 := .int .i64 0) (by rw [HZ.out]; omega)
        obtain ⟨Wf, hWf⟩ : ∃ Wf, Wf = (((w1.setCell ⟨z + 1, 0, none⟩ (.int .i64 20)).setCell ⟨z + 1, 1, none⟩ (.int .i64 3)).setCell ⟨z + 1, 2, none⟩ (.int .i64 0)) := ⟨_, rfl⟩
        rw [← hWf] at hfin hBf ⊢
        have y0 := cell_of_block hfin (i := 0)
        have y1 := cell_of_block hfin (i := 1)
        have y2 := cell_of_block hfin (i := 2)
        exact bodyPost_ret (v := wrV (20, 3, 0)) (by simp [results, Tryd.results60, go_sem, wrV, y0, y1, y2]) rfl ⟨by rw [HE.out], hBf⟩
end Go.Proofs.YtjbdhakogbolkaaDoor
end
section
/- tesserabook.Roomy, Same, Intact of spans: their contracts. -/
namespace Go.Proofs.YtjbdhakogbolkaaDoor
open Go.RowKit Go.Sort Go.Joins
/-- Copying whole elements of k cells each into a row. -/
theorem run_copy_rowN {P : Program} (w : World) (dT sT ty elem : TypeId) (k g o dLen dCap : Nat) (a : Addr) (sLen sCap : Nat) (cur : Array Value) (t : TypeId) (cs : List Value)
    (hu : P.underlying dT = some (.slice elem)) (hs : (P.info? elem).map (·.size) = some k)
    (hg : w.heap[g]? = some (.cells cur t (0, 0))) (hn : cs.length = Nat.min sLen dLen * k)
    (hsrc : ∀ j v, cs[j]? = some v → w.cell? (a.add j) = some v) (hfit : o + cs.length ≤ cur.size) (h1 : ∀ v ∈ cs, v.oneCell' = true) :
    (Builtin.copy_ #[dT, sT] ty #[.slice (some ⟨g, o, none⟩) dLen dCap, .slice (some a) sLen sCap]).run P w =
      .ok (goInt (Nat.min sLen dLen)) (w.setRow g (cur.toList.take o ++ cs ++ cur.toList.drop (o + cs.length)).toArray) := by
  have hl := run_loadCells_list (P := P) w a cs hsrc
  have hst := run_storeCells_at P g o t cs 0 cur w hg (by simpa using hfit) h1
  rw [hn] at hl
  cases hq : P.info? elem with
  | none => simp [hq] at hs
  | some i =>
    have hi : i.size = k := by simpa [hq] using hs
    simp [Builtin.copy_, run_underlying hu, Builtin.lenOf, Builtin.firstCells, sizeOf, typeInfo, hq, hi, hl, hst]
/-- A block of spans' cells. -/
def OwnP (w : World) (g : Nat) (L : List Value) : Prop := w.heap[g]? = some (.cells L.toArray 27 (0, 0))
theorem OwnP.below {w w' : World} {g : Nat} {L : List Value} {B : Nat} (h : OwnP w g L) (hb : Below B w w') (hg : g < B) : OwnP w' g L := by
  unfold OwnP; rw [hb.block g hg]; exact h
theorem OwnP.lt {w : World} {g : Nat} {L : List Value} (h : OwnP w g L) : g < w.heap.size := (Array.getElem?_eq_some_iff.1 h).1
theorem OwnP.cell {w : World} {g : Nat} {L : List Value} (h : OwnP w g L) (j : Nat) : w.cell? ⟨g, j, none⟩ = L[j]? := by
  rw [cell_of_block h]; simp
theorem OwnP.free {w : World} {g : Nat} {L : List Value} (h : OwnP w g L) (j : Nat) : w.frozen? ⟨g, j, none⟩ = false := unfrozen_of_block h j
theorem OwnP.set {w : World} {g : Nat} {L : List Value} (h : OwnP w g L) (j : Nat) (v : Value) : OwnP (w.setCell ⟨g, j, none⟩ v) g (L.set j v) := by
  have := block_setCell h (i := j) v
  unfold OwnP; rw [this]; simp
theorem cellsS_append (l r : List Sp) : cellsS (l ++ r) = cellsS l ++ cellsS r := by simp [cellsS]
theorem cellsS_one (l : List Sp) : ∀ v ∈ cellsS l, v.oneCell' = true := by
  intro v hv
  simp [cellsS] at hv
  obtain ⟨c, _, h⟩ := hv
  rcases h with rfl | rfl <;> rfl
theorem cellsS_set (l : List Sp) (i : Nat) (x : Sp) : ((cellsS l).set (i * 2) (.int .i32 x.lo)).set (i * 2 + 1) (.int .i32 x.hi) = cellsS (l.set i x) := by
  induction l generalizing i with
  | nil => simp [cellsS]
  | cons y l ih =>
    have e : ∀ z, cellsS (z :: l) = .int .i32 z.lo :: .int .i32 z.hi :: cellsS l := fun z => rfl
    cases i with
    | zero => rfl
    | succ i =>
      have e2 : cellsS ((y :: l).set (i + 1) x) = .int .i32 y.lo :: .int .i32 y.hi :: cellsS (l.set i x) := rfl
      rw [e2, e, ← ih i, show (i + 1) * 2 = i * 2 + 1 + 1 by omega, show i * 2 + 1 + 1 + 1 = i * 2 + 1 + 1 + 1 from rfl]
      rfl
/-- The spans of l, k marks, noughts up to 80. -/
def fillS (l : List Sp) (m : Sp) (k : Nat) : List Sp := l ++ (List.replicate k m ++ List.replicate (80 - k) ⟨0, 0⟩)
theorem fillS_set (l : List Sp) (m : Sp) (k : Nat) (h : k < 80) : (fillS l m k).set (l.length + k) m = fillS l m (k + 1) := by
  unfold fillS
  rw [List.set_append_right _ _ (by omega), Nat.add_sub_cancel_left, List.set_append_right _ _ (by simp)]
  simp only [List.length_replicate, Nat.sub_self]
  rw [show 80 - k = (80 - (k + 1)) + 1 from by omega, List.replicate_succ, List.set_cons_zero, List.replicate_succ', List.append_assoc]
  rfl
theorem fillS_length (l : List Sp) (m : Sp) (k : Nat) (h : k ≤ 80) : (fillS l m k).length = l.length + 80 := by
  simp [fillS]; omega
theorem fillS_get (l : List Sp) (m : Sp) (n k : Nat) (h : k < n) : (fillS l m n)[l.length + k]? = some m := by
  unfold fillS
  rw [List.getElem?_append_right (by omega), Nat.add_sub_cancel_left, List.getElem?_append_left (by simpa using h)]
  simp [h]
theorem copy_cellsS (l : List Sp) : (cellsS (List.replicate (l.length + 80) ⟨0, 0⟩)).take 0 ++ cellsS l ++ (cellsS (List.replicate (l.length + 80) ⟨0, 0⟩)).drop (0 + (cellsS l).length) = cellsS (fillS l ⟨0, 0⟩ 0) := by
  have h : cellsS (List.replicate (l.length + 80) ⟨0, 0⟩) = cellsS (List.replicate l.length ⟨0, 0⟩) ++ cellsS (List.replicate 80 ⟨0, 0⟩) := by
    rw [← cellsS_append, List.replicate_append_replicate]
  rw [h, Nat.zero_add, List.drop_append_of_le_length (by rw [cellsS_length, cellsS_length]; simp), List.drop_of_length_le (by rw [cellsS_length, cellsS_length]; simp)]
  unfold fillS
  simp [cellsS_append]
theorem fillS_start (l : List Sp) (m : Sp) : fillS l ⟨0, 0⟩ 0 = fillS l m 0 := by simp [fillS]
theorem info26 : (Tryd.prog.info? 27).map (fun i => (i.zero, i.size, i.bytes)) = some (some (.agg #[.int .i32 0, .int .i32 0]), 2, 8) := by kernel_rfl
theorem size26 : (Tryd.prog.info? 27).map (·.size) = some 2 := by kernel_rfl
theorem madeS (n : Nat) : madeCells #[Value.int .i32 0, Value.int .i32 0] (n * 2) = (cellsS (List.replicate n ⟨0, 0⟩)).toArray := by
  have e : cellsS (List.replicate n ⟨0, 0⟩) = List.replicate (n * 2) (.int .i32 0) := by
    induction n with
    | zero => rfl
    | succ n ih =>
      rw [List.replicate_succ, show cellsS (⟨0, 0⟩ :: List.replicate n ⟨0, 0⟩) = .int .i32 0 :: .int .i32 0 :: cellsS (List.replicate n ⟨0, 0⟩) from rfl, ih, show (n + 1) * 2 = n * 2 + 1 + 1 by omega, List.replicate_succ, List.replicate_succ]
  rw [e]
  apply Array.ext
  · simp [madeCells]
  · intro i h1 h2
    simp only [madeCells, Array.getElem_map, List.getElem_toArray, List.getElem_replicate]
    have : (Array.range (n * 2))[i]'(by simpa [madeCells] using h1) % #[Value.int .i32 0, Value.int .i32 0].size < 2 := Nat.mod_lt _ (by decide)
    generalize (Array.range (n * 2))[i]'(by simpa [madeCells] using h1) % #[Value.int .i32 0, Value.int .i32 0].size = j at this
    match j, this with
    | 0, _ => rfl
    | 1, _ => rfl
theorem SPS.cells {w : World} {x : Addr} {l : List Sp} (h : SPS w (some x) l) : ∀ j u, (cellsS l)[j]? = some u → w.cell? (x.add j) = some u := by
  intro j u hu
  rcases h with rfl | ⟨b, off, hx, hc⟩
  · simp [cellsS] at hu
  · obtain rfl := Option.some.inj hx
    have hj : j < (cellsS l).length := (List.getElem?_eq_some_iff.1 hu).1
    rw [cellsS_length] at hj
    have hi : l[j / 2]? = some l[j / 2] := List.getElem?_eq_getElem (by omega)
    obtain ⟨g0, g1⟩ := cellsS_get _ _ _ hi
    obtain ⟨c0, c1⟩ := hc _ _ hi
    rw [Go.WideShapes.add_plain]
    rcases Nat.mod_two_eq_zero_or_one j with e | e
    · have ej : j = j / 2 * 2 := by omega
      rw [ej, g0] at hu
      rw [ej, c0]
      exact hu
    · have ej : j = j / 2 * 2 + 1 := by omega
      rw [ej, g1] at hu
      rw [ej, ← Nat.add_assoc, c1]
      exact hu
theorem copy_runS (W : World) (g : Nat) (a : Option Addr) (cap : Nat) (l : List Sp) (hO : OwnP W g (cellsS (List.replicate (l.length + 80) ⟨0, 0⟩))) (h : SPS W a l) :
    ∃ W1, (Builtin.copy_ #[28, 28] 3 #[.slice (some ⟨g, 0, none⟩) (l.length + 80) (l.length + 80), .slice a l.length cap]).run Tryd.prog W = .ok (.int .i64 (l.length : Int)) W1 ∧
      OwnP W1 g (cellsS (fillS l ⟨0, 0⟩ 0)) ∧ ∀ B w0, Below B w0 W → B ≤ g → Below B w0 W1 := by
  have nil : l = [] → ∃ W1, (Builtin.copy_ #[28, 28] 3 #[.slice (some ⟨g, 0, none⟩) (l.length + 80) (l.length + 80), .slice a l.length cap]).run Tryd.prog W = .ok (.int .i64 (l.length : Int)) W1 ∧
      OwnP W1 g (cellsS (fillS l ⟨0, 0⟩ 0)) ∧ ∀ B w0, Below B w0 W → B ≤ g → Below B w0 W1 := by
    rintro rfl
    refine ⟨W, ?_, by simpa [fillS] using hO, fun _ _ h _ => h⟩
    have hl : ∀ (x : Addr), (loadCells x 0).run Tryd.prog W = .ok #[] W := fun x => by simpa using run_loadCells_list (P := Tryd.prog) W x [] (by simp)
    cases hq : Tryd.prog.info? 27 with
    | none => have := size26; simp [hq] at this
    | some i =>
      cases a <;> simp [Builtin.copy_, run_underlying Tryd.underlying28, Builtin.lenOf, Builtin.firstCells, sizeOf, typeInfo, hq, storeCells, hl, goInt]
  rcases h with h | ⟨b, off, rfl, hc⟩
  · exact nil h
  · have hmin : Nat.min l.length (l.length + 80) = l.length := Nat.min_eq_left (by omega)
    have hr := run_copy_rowN (P := Tryd.prog) W 28 28 3 27 2 g 0 (l.length + 80) (l.length + 80) ⟨b, off, none⟩ l.length cap _ 27 (cellsS l) Tryd.underlying28 size26 hO (by rw [hmin, cellsS_length])
      (SPS.cells (.inr ⟨b, off, rfl, hc⟩)) (by rw [List.size_toArray, cellsS_length, cellsS_length]; simp; omega) (cellsS_one l)
    rw [hmin] at hr
    refine ⟨_, hr, ?_, fun B w0 hb hg => below_setRow hb hg _⟩
    have := setRow_heap W g (cellsS (List.replicate (l.length + 80) ⟨0, 0⟩)).toArray ((cellsS (List.replicate (l.length + 80) ⟨0, 0⟩)).take 0 ++ cellsS l ++ (cellsS (List.replicate (l.length + 80) ⟨0, 0⟩)).drop (0 + (cellsS l).length)).toArray 27 (0, 0) hO
    rw [copy_cellsS] at this
    unfold OwnP
    rw [← this]
    rw [copy_cellsS]
theorem SpAt.other {w : World} {b off g : Nat} {x : Sp} (h : SpAt w b off x) (i j : Nat) (u : Value) {v : Value} (hg : b ≠ g) : SpAt ((w.setCell ⟨g, i, none⟩ u).setCell ⟨g, j, none⟩ v) b off x := by
  have e : ∀ o, ((w.setCell ⟨g, i, none⟩ u).setCell ⟨g, j, none⟩ v).cell? ⟨b, o, none⟩ = w.cell? ⟨b, o, none⟩ := fun o => by
    rw [World.cell?_setCell_other _ _ _ _ (fun e => hg (by injection e with e; exact e.symm)), World.cell?_setCell_other _ _ _ _ (fun e => hg (by injection e with e; exact e.symm))]
  exact ⟨(e _).trans h.1, (e _).trans h.2⟩
end Go.Proofs.YtjbdhakogbolkaaDoor
end
section
/- append, its run handed to the operation. -/
namespace Go.Proofs.YtjbdhakogbolkaaDoor
open Go.RowKit
open Go.Joins
theorem wpList_append_run {P : Program} {w : World} {ops : Array Oper} {rest : List Oper} {o : Oper} {a : Act} {Q : Exit → Act → World → Prop} (hgd : o.guard = none) (s x : Operand) (t tx : TypeId)
    (ho : o.op = .call { callee := .builtin .append, args := #[s, x], argTypes := #[t, tx] }) (v y : Value) (hs : a.eval s = v) (hx : a.eval x = y) (v' : Value) (w' : World)
    (hr : (Builtin.append_ #[t, tx] o.type #[v, y]).run P w = .ok v' w') (h : wpList P ops Q rest (a.put o.dst v') w') : wpList P ops Q (o :: rest) a w := by
  refine wpList_plain hgd fun K hK => ?_
  unfold Oper.wp execOp
  simp only [ho, resolve, invoke, builtin, Sem.run_bind, Sem.run_pure, Result.andThen_ok, List.map_toArray, List.map_cons, List.map_nil, hs, hx, hr]
  exact hK _ _ h
theorem cell_add (b off j : Nat) : (⟨b, off, none⟩ : Addr).add j = ⟨b, off + j, none⟩ := Go.WideShapes.add_plain b off j
end Go.Proofs.YtjbdhakogbolkaaDoor
end
section
/- slices.Clone of spans, spans.All, tesserabook.Within: their contracts. -/
namespace Go.Proofs.YtjbdhakogbolkaaDoor
open Go.RowKit Go.Sort Go.Joins
/-- A list of spans in memory of one's own: its row's block is known. -/
def SPR (w : World) (lo : Nat) (a : Option Addr) (l : List Sp) : Prop := l = [] ∨ ∃ g cur, a = some ⟨g, 0, none⟩ ∧ lo ≤ g ∧ w.heap[g]? = some (.cells cur 27 (0, 0)) ∧ ∀ i x, l[i]? = some x → cur[i * 2]? = some (.int .i32 x.lo) ∧ cur[i * 2 + 1]? = some (.int .i32 x.hi)
theorem SPR.below {w w' : World} {lo : Nat} {a : Option Addr} {l : List Sp} (h : SPR w lo a l) (hb : Below w.heap.size w w') : SPR w' lo a l := by
  rcases h with h | ⟨g, cur, h1, h2, h3, h4⟩
  · exact .inl h
  · exact .inr ⟨g, cur, h1, h2, (hb.block g (Array.getElem?_eq_some_iff.1 h3).1).trans h3, h4⟩
/-- What a copy of a list is. -/
def Copied (w : World) (lo : Nat) (v : Value) (l : List Sp) : Prop := ∃ a cap, v = .slice a l.length cap ∧ l.length ≤ cap ∧ cap ≤ 9223372036854775807 ∧ SPR w lo a l
theorem eq_nil_none (n c : Nat) (W : World) : (binOp BinOp.eql 28 (.slice none n c) (.slice none 0 0)).run Tryd.prog W = .ok (.bool true) W := by kernel_rfl
theorem eq_nil_some (x : Addr) (n c : Nat) (W : World) : (binOp BinOp.eql 28 (.slice (some x) n c) (.slice none 0 0)).run Tryd.prog W = .ok (.bool false) W := by kernel_rfl
theorem clone_any (a : Option Addr) (cap : Nat) (l : List Sp) (w : World) (hlen : l.length ≤ 17592186044416) (h : SPS w a l) :
    Calls Tryd.prog 61 #[.slice a l.length cap] w fun e w' => ∃ v, e = .returned v ∧ Copied w' w.heap.size v l ∧ Below w.heap.size w w' := by
  cases a with
  | none =>
    have hl : l = [] := by
      rcases h with h | ⟨b, off, h, _⟩
      · exact h
      · cases h
    subst hl
    have he := eq_nil_none 0 cap
    simp only [List.length_nil]
    go_enter Tryd.func61, Tryd.ntmps61
    go_wp2_with fail
    go_ret
    exact ⟨_, rfl, ⟨none, 0, rfl, Nat.le_refl _, by omega, .inl rfl⟩, Below.refl _ _⟩
  | some x =>
    obtain ⟨i0, hi, hz0, hz1, hz2⟩ := info_parts info26
    have he := eq_nil_some x l.length cap
    have hb : Below w.heap.size w (w.alloc (.cells #[] 27)) := (Below.refl _ w).alloc (Nat.le_refl _) _
    have hown : (w.alloc (.cells #[] 27)).ownsRow w.heap.size 27 2 (.slice (some ⟨w.heap.size, 0, none⟩) 0 0) 0 [] :=
      ⟨rfl, .inr ⟨w.heap.size, 0, #[], rfl, Nat.le_refl _, heap_alloc_new w _, Nat.le_refl _, by simp [maxLen], rfl, rfl⟩⟩
    obtain ⟨v', w', h1, h2, h3, h4⟩ := run_append_own (P := Tryd.prog) (w.alloc (.cells #[] 27)) w.heap.size 28 28 27 i0 _ 2 8 Tryd.underlying28 hi hz0 hz1 hz2 rfl (by decide) _ 0 [] hown x l.length cap (cellsS l) (cellsS_length l) (h.below hb).cells (cellsS_one l) (by unfold maxLen; omega) (by omega) (by simp)
    rw [Nat.zero_add, List.nil_append] at h2
    have hB : Below w.heap.size w w' := hb.grown h3 (by simp) (fun k hk => by
      have : k = w.heap.size := by simpa [Value.ownBlock] using hk.symm
      omega)
    have hC : Copied w' w.heap.size v' l := by
      rcases h2.2 with ⟨hv, _⟩ | ⟨g, c, cur, hv, hg, hh, hn, hm, hs, ht⟩
      · have := (h4.1 hv).1
        cases this
      · refine ⟨_, _, hv, hn, by simpa [maxLen] using hm, .inr ⟨g, cur, rfl, hg, hh, fun i y hy => ?_⟩⟩
        have hi : i < l.length := (List.getElem?_eq_some_iff.1 hy).1
        obtain ⟨q0, q1⟩ := cellsS_get _ _ _ hy
        rw [← ht] at q0 q1
        rw [List.getElem?_take_of_lt (by omega)] at q0 q1
        exact ⟨by simpa using q0, by simpa using q1⟩
    clear hown h2 h3 h4 hb h
    go_enter Tryd.func61, Tryd.ntmps61
    go_wp2_with (at_builtin; refine wpList_append_run rfl (.tmp 5) (.tmp 6) 28 28 rfl _ _ rfl rfl _ w' h1 ?_)
    go_ret
    exact ⟨_, rfl, hC, hB⟩
theorem ret_i64 {a b : Int} (h : a = b) : Ending.returned (.int .i64 a) = .returned (.int .i64 b) := by rw [h]
/-- A number brought between one and h. -/
theorem within_any (n : Int) (h : Nat) (h0 : 1 ≤ h) (hh : h ≤ 4294967296) (w : World) :
    Calls Tryd.prog 19 #[.int .i64 n, .int .i64 1, .int .i64 (h : Nat)] w fun e w' => ∃ k : Nat, 1 ≤ k ∧ k ≤ h ∧ e = .returned (.int .i64 k) ∧ w' = w := by
  have h1 : ((h : Int) - 1 + 1 == 0) = false := by simp; omega
  have h1' : ((h : Int) == 0) = false := by simp; omega
  have t1 : n.tmod (h : Int) < (h : Int) := Int.tmod_lt_of_pos _ (by omega)
  have t2 : -(h : Int) < n.tmod (h : Int) := by
    have := Int.lt_tmod_of_pos n (b := (h : Int)) (by omega)
    omega
  have e : (h : Int) - 1 + 1 = h := by omega
  by_cases hp : n.tmod (h : Int) < 0
  · go_enter Tryd.func19, Tryd.ntmps19
    go_wp2
    go_ret
    exact ⟨(1 + (n.tmod (h : Int) + h)).toNat, by omega, by omega, ret_i64 (by simp; omega), rfl⟩
  · have hp' : 0 ≤ n.tmod (h : Int) := by omega
    clear hp
    go_enter Tryd.func19, Tryd.ntmps19
    go_wp2
    go_ret
    exact ⟨(1 + n.tmod (h : Int)).toNat, by omega, by omega, ret_i64 (by simp; omega), rfl⟩
end Go.Proofs.YtjbdhakogbolkaaDoor
end
section
/- classes.New: its contract. -/
namespace Go.Proofs.YtjbdhakogbolkaaDoor
open Go.RowKit Go.Sort Go.Joins
/-- The four lists in a block. -/
def Tab4 (w : World) (g : Nat) (t : TypeId) (ad : Nat → Option Addr) (cp : Nat → Nat) (A B C : List Sp) : Prop :=
  w.heap[g]? = some (.cells #[.slice (ad 0) 0 (cp 0), .slice (ad 1) A.length (cp 1), .slice (ad 2) B.length (cp 2), .slice (ad 3) C.length (cp 3)] t (0, 0))
def upd {X : Type} (f : Nat → X) (i : Nat) (x : X) : Nat → X := fun j => if j = i then x else f j
theorem Tab4.cell {w : World} {g : Nat} {t : TypeId} {ad : Nat → Option Addr} {cp : Nat → Nat} {A B C : List Sp} (h : Tab4 w g t ad cp A B C) {j : Nat} (hj : j < 4) : w.cell? ⟨g, j, none⟩ = some (.slice (ad j) (pickL A B C j).length (cp j)) := by
  rw [cell_of_block h]
  rcases (show j = 0 ∨ j = 1 ∨ j = 2 ∨ j = 3 by omega) with rfl | rfl | rfl | rfl <;> rfl
theorem Tab4.set {w : World} {g : Nat} {t : TypeId} {ad : Nat → Option Addr} {cp : Nat → Nat} {A B C : List Sp} (h : Tab4 w g t ad cp A B C) {i : Nat} (hi : i < 4) (a : Option Addr) (c : Nat) :
    Tab4 (w.setCell ⟨g, i, none⟩ (.slice a (pickL A B C i).length c)) g t (upd ad i a) (upd cp i c) A B C := by
  have := block_setCell (i := i) h (.slice a (pickL A B C i).length c)
  unfold Tab4
  rw [this]
  rcases (show i = 0 ∨ i = 1 ∨ i = 2 ∨ i = 3 by omega) with rfl | rfl | rfl | rfl <;> rfl
theorem Tab4.below {w w' : World} {g : Nat} {t : TypeId} {ad : Nat → Option Addr} {cp : Nat → Nat} {A B C : List Sp} (h : Tab4 w g t ad cp A B C) (hb : Below w.heap.size w w') : Tab4 w' g t ad cp A B C :=
  (hb.block g (Array.getElem?_eq_some_iff.1 h).1).trans h
theorem Tab4.lt {w : World} {g : Nat} {t : TypeId} {ad : Nat → Option Addr} {cp : Nat → Nat} {A B C : List Sp} (h : Tab4 w g t ad cp A B C) : g < w.heap.size := (Array.getElem?_eq_some_iff.1 h).1
theorem SPR.low {w : World} {lo lo' : Nat} {a : Option Addr} {l : List Sp} (h : SPR w lo a l) (hl : lo' ≤ lo) : SPR w lo' a l := by
  rcases h with h | ⟨g, cur, h1, h2, h3, h4⟩
  · exact .inl h
  · exact .inr ⟨g, cur, h1, by omega, h3, h4⟩
theorem SPR.sps {w : World} {lo : Nat} {a : Option Addr} {l : List Sp} (h : SPR w lo a l) : SPS w a l := by
  rcases h with h | ⟨g, cur, h1, h2, h3, h4⟩
  · exact .inl h
  · refine .inr ⟨g, 0, h1, fun i x hx => ?_⟩
    obtain ⟨q0, q1⟩ := h4 i x hx
    exact ⟨by rw [cell_of_block h3, Nat.zero_add]; exact q0, by rw [cell_of_block h3, Nat.zero_add]; exact q1⟩
theorem SPR.away {w : World} {lo : Nat} {a : Option Addr} {l : List Sp} (h : SPR w lo a l) {b o : Nat} (hb : b < lo) (v : Value) : SPR (w.setCell ⟨b, o, none⟩ v) lo a l := by
  rcases h with h | ⟨g, cur, h1, h2, h3, h4⟩
  · exact .inl h
  · exact .inr ⟨g, cur, h1, h2, (Below.heap_setCell w ⟨b, o, none⟩ v g (fun e => by have e' : g = b := e; omega)).trans h3, h4⟩
/-- A list of one's own. -/
def OwnL (w : World) (lo : Nat) (a : Option Addr) (c : Nat) (l : List Sp) : Prop := l.length ≤ c ∧ c ≤ 9223372036854775807 ∧ SPR w lo a l
/-- A Table of one's own lies at block g: what it holds lies from lo on. -/
def OwnT (w : World) (lo g : Nat) (A B C : List Sp) : Prop := ∃ ad cp, lo ≤ g ∧ Tab4 w g 131 ad cp A B C ∧ ∀ j, j < 4 → OwnL w lo (ad j) (cp j) (pickL A B C j)
theorem OwnT.below {w w' : World} {lo g : Nat} {A B C : List Sp} (h : OwnT w lo g A B C) (hb : Below w.heap.size w w') : OwnT w' lo g A B C := by
  obtain ⟨ad, cp, h1, h2, h3⟩ := h
  exact ⟨ad, cp, h1, h2.below hb, fun j hj => ⟨(h3 j hj).1, (h3 j hj).2.1, (h3 j hj).2.2.below hb⟩⟩
theorem OwnT.low {w : World} {lo lo' g : Nat} {A B C : List Sp} (h : OwnT w lo g A B C) (hl : lo' ≤ lo) : OwnT w lo' g A B C := by
  obtain ⟨ad, cp, h1, h2, h3⟩ := h
  exact ⟨ad, cp, by omega, h2, fun j hj => ⟨(h3 j hj).1, (h3 j hj).2.1, (h3 j hj).2.2.low hl⟩⟩
theorem OwnT.away {w : World} {lo g : Nat} {A B C : List Sp} (h : OwnT w lo g A B C) {b o : Nat} (hb : b < lo) (v : Value) : OwnT (w.setCell ⟨b, o, none⟩ v) lo g A B C := by
  obtain ⟨ad, cp, h1, h2, h3⟩ := h
  exact ⟨ad, cp, h1, (Below.heap_setCell w ⟨b, o, none⟩ v g (fun e => by have e' : g = b := e; omega)).trans h2, fun j hj => ⟨(h3 j hj).1, (h3 j hj).2.1, (h3 j hj).2.2.away hb v⟩⟩
theorem OwnT.lt {w : World} {lo g : Nat} {A B C : List Sp} (h : OwnT w lo g A B C) : g < w.heap.size := by
  obtain ⟨ad, cp, h1, h2, h3⟩ := h
  exact h2.lt
theorem OwnT.tab {w : World} {lo g : Nat} {A B C : List Sp} (h : OwnT w lo g A B C) : TabAt w g A B C := by
  obtain ⟨ad, cp, h1, h2, h3⟩ := h
  have hl : ∀ j, j < 4 → Lst w (ad j) (cp j) (pickL A B C j) := fun j hj => ⟨(h3 j hj).1, (h3 j hj).2.1, (h3 j hj).2.2.sps⟩
  exact ⟨ad 1, ad 2, ad 3, cp 1, cp 2, cp 3, ⟨h2.cell (j := 1) (by omega), h2.cell (j := 2) (by omega), h2.cell (j := 3) (by omega)⟩, hl 1 (by omega), hl 2 (by omega), hl 3 (by omega)⟩
set_option maxRecDepth 100000 in
set_option maxHeartbeats 8000000 in
theorem new_any (a b c : Option Addr) (ca cb cc : Nat) (A B C : List Sp) (w : World) (hA : Lst w a ca A) (hB : Lst w b cb B) (hC : Lst w c cc C) (hG : GL w) :
    Calls Tryd.prog 42 #[.slice a A.length ca, .slice b B.length cb, .slice c C.length cc] w fun e w' => ∃ p, e = .returned (.tuple #[.pointer p, wrV (checkA A B C)]) ∧ ((checkA A B C).1 = 0 → ∃ g, p = some ⟨g, 0, none⟩ ∧ OwnT w' w.heap.size g A B C) ∧ ((checkA A B C).1 ≠ 0 → p = none) ∧ Below w.heap.size w w' := by
  have hps : (checkA A B C).1 = 0 → (A.length ≤ 512 ∧ B.length ≤ 512 ∧ C.length ≤ 512) ∧ checkA A B C = (0, 0, 0) := fun h => ⟨(check_pass h).1.len (by omega), check_zero h⟩
  have hR := fun wx (h1 : Lst wx a ca A) (h2 : Lst wx b cb B) (h3 : Lst wx c cc C) (hg : GL wx) => wrong_any a b c ca cb cc A B C wx h1 h2 h3 hg
  obtain ⟨⟨y, li, ro⟩, hy⟩ : ∃ y, y = checkA A B C := ⟨_, rfl⟩
  rw [← hy] at hps hR ⊢
  have HPS : Hid (y = 0 → (A.length ≤ 512 ∧ B.length ≤ 512 ∧ C.length ≤ 512) ∧ (y, li, ro) = (0, 0, 0)) := hps
  clear hy hps
  obtain ⟨Y0, hY0⟩ : ∃ Y0, Y0 = w.alloc (.cells #[.int .i64 0, .int .i64 0, .int .i64 0] 101) := ⟨_, rfl⟩
  have s0 : Y0.heap.size = w.heap.size + 1 := by rw [hY0]; simp
  have b0 : Below w.heap.size w Y0 := by rw [hY0]; exact (Below.refl _ _).alloc (Nat.le_refl _) _
  have hW0 : Y0.heap[w.heap.size]? = some (.cells #[.int .i64 0, .int .i64 0, .int .i64 0] 101 (0, 0)) := by rw [hY0]; exact heap_alloc_new _ _
  obtain ⟨Y1, hY1⟩ : ∃ Y1, Y1 = Y0.alloc (.cells #[.slice none 0 0, .slice a A.length ca, .slice b B.length cb, .slice c C.length cc] 127) := ⟨_, rfl⟩
  have s1 : Y1.heap.size = w.heap.size + 1 + 1 := by rw [hY1]; simp; omega
  have b01 : Below Y0.heap.size Y0 Y1 := by rw [hY1]; exact (Below.refl _ _).alloc (Nat.le_refl _) _
  have b1 := b0.trans (b01.mono b0.size)
  have hW1 := (b01.block _ (by omega)).trans hW0
  have hL1 : Tab4 Y1 (w.heap.size + 1) 127 (adL a b c) (cpL ca cb cc) A B C := by rw [hY1, ← s0]; exact heap_alloc_new _ _
  have hA1 := hA.below b1
  have hB1 := hB.below b1
  have hC1 := hC.below b1
  have hG1 := hG.below b1
  have hL0 := fun j => four hA hB hC j
  clear hA hB hC hG hW0 b0 b01
  unfold lsV at hR
  go_enter Tryd.func42, Tryd.ntmps42
  go_wp2_with fail
  rw [← hY0, ← hY1]
  clear hY0 hY1
  refine (hR _ hA1 hB1 hC1 hG1).mono ?_
  rintro e w1 ⟨rfl, hb1⟩
  have B1 := b1.trans (hb1.mono b1.size)
  have hW2 := (hb1.block _ (by omega)).trans hW1
  have hL2 := hL1.below hb1
  have hA2 := hA1.below hb1
  have hB2 := hB1.below hb1
  have hC2 := hC1.below hb1
  have hs1 : w.heap.size + 1 + 1 ≤ w1.heap.size := by have := hb1.size; omega
  clear hR hA1 hB1 hC1 hG1 hW1 hL1 b1 hb1 s0 s1
  unfold wrV
  have ba : Below w1.heap.size w1 (w1.alloc (.cells #[.int .i64 (y : Nat), .int .i64 (li : Nat), .int .i64 (ro : Nat)] 101)) := (Below.refl _ _).alloc (Nat.le_refl _) _
  have hW3 := (ba.block _ (Array.getElem?_eq_some_iff.1 hW2).1).trans hW2
  have hL3 := hL2.below ba
  have hA3 := hA2.below ba
  have hB3 := hB2.below ba
  have hC3 := hC2.below ba
  have B3 := B1.trans (ba.mono B1.size)
  have hN3 := heap_alloc_new w1 (.cells #[.int .i64 (y : Nat), .int .i64 (li : Nat), .int .i64 (ro : Nat)] 101)
  clear hW2 hL2 hA2 hB2 hC2 B1 ba
  by_cases h0 : y = 0
  · obtain ⟨hps, hz⟩ := HPS.out h0
    obtain ⟨rfl, rfl⟩ : li = 0 ∧ ro = 0 := by simpa [h0] using hz
    subst h0
    clear hz
    have hcl : ∀ j, j < 4 → (pickL A B C j).length ≤ 512 := fun j hj => by
      rcases (show j = 0 ∨ j = 1 ∨ j = 2 ∨ j = 3 by omega) with rfl | rfl | rfl | rfl
      · exact Nat.zero_le _
      · exact hps.1
      · exact hps.2.1
      · exact hps.2.2
    clear HPS hps hA3 hB3 hC3 hN3
    go_wp2_with fail
    obtain ⟨W3, hW3'⟩ : ∃ W3, W3 = w1.alloc (.cells #[.int .i64 0, .int .i64 0, .int .i64 0] 101) := ⟨_, rfl⟩
    have hs3 : w.heap.size + 1 + 1 < W3.heap.size := by rw [hW3']; simp; omega
    have e0 : w1.alloc (.cells #[.int .i64 ((0 : Nat) : Int), .int .i64 ((0 : Nat) : Int), .int .i64 ((0 : Nat) : Int)] 101) = W3 := hW3'.symm
    rw [e0] at hW3 hL3 B3
    rw [← hW3']
    clear hW3' e0
    obtain ⟨z, hz⟩ : ∃ z, z = w.heap.size := ⟨_, rfl⟩
    have HZ : Hid (z = w.heap.size) := hz
    rw [← hz] at hW3 hL3 hs3 ⊢
    clear hz hs1
    obtain ⟨g9, hg9⟩ : ∃ g9, g9 = w1.heap.size := ⟨_, rfl⟩
    rw [← hg9]
    clear hg9
    go_loopw [21] (fun v wr => ∃ (i : Nat) (ad : Nat → Option Addr) (cp : Nat → Nat), i ≤ 4 ∧ v = .int .i64 (i : Nat) ∧ Tab4 wr (z + 1) 127 ad cp A B C ∧ (∀ j, i ≤ j → ad j = adL a b c j ∧ cp j = cpL ca cb cc j) ∧ (∀ j, j < i → OwnL wr (z + 1 + 1) (ad j) (cp j) (pickL A B C j)) ∧ wr.heap[z]? = some (.cells #[.int .i64 0, .int .i64 0, .int .i64 0] 101 (0, 0)) ∧ Below z w wr ∧ W3.heap.size ≤ wr.heap.size) (fun v _ => 4 - (intOf v).toNat)
    case atStart => exact ⟨0, _, _, by omega, rfl, hL3, fun j _ => ⟨rfl, rfl⟩, fun j hj => absurd hj (Nat.not_lt_zero _), hW3, by rw [HZ.out]; exact B3, Nat.le_refl _⟩
    case round =>
      clear hW3 hL3 B3
      obtain ⟨i, ad, cp, hi, rfl, hT, hLs, hO, hW, hB, hsz⟩ := hrel
      by_cases h4 : i < 4
      · have hci := hT.cell h4
        have hLi : Lst wr (ad i) (cp i) (pickL A B C i) := by
          rw [(hLs i (Nat.le_refl _)).1, (hLs i (Nat.le_refl _)).2]
          exact (hL0 i).below (by rw [← HZ.out]; exact hB)
        have hcli := hcl i h4
        have hK := clone_any (ad i) (cp i) (pickL A B C i) wr (by omega) hLi.at'
        obtain ⟨X, hX⟩ : ∃ X, X = pickL A B C i := ⟨_, rfl⟩
        obtain ⟨ax, hax⟩ : ∃ ax, ax = ad i := ⟨_, rfl⟩
        obtain ⟨cx, hcx⟩ : ∃ cx, cx = cp i := ⟨_, rfl⟩
        rw [← hX] at hci hK
        rw [← hax] at hci hK
        rw [← hcx] at hci hK
        have HX : Hid (X = pickL A B C i) := hX
        have hd4 : decide ((i : Int) < 4) = true := decide_eq_true (by omega)
        have HL : Hid (∀ j, i ≤ j → ad j = adL a b c j ∧ cp j = cpL ca cb cc j) := hLs
        clear hX hax hcx hcli hcl hLi hLs hL0
        go_wp2_with fail
        refine hK.mono ?_
        rintro e w5 ⟨v, rfl, ⟨a', c', rfl, hc1, hc2, hsp⟩, hb5⟩
        have hT5 := hT.below hb5
        have hci5 := hT5.cell h4
        rw [← HX.out] at hci5
        have hf5 := fun j => unfrozen_of_block hT5 j
        have HT5 : Hid (Tab4 w5 (z + 1) 127 ad cp A B C) := hT5
        clear hT5 hT hci hK
        go_wp2_with fail
        have hT6 := HT5.out.set h4 a' c'
        rw [← HX.out] at hT6
        have hltz := HT5.out.lt
        refine ⟨⟨i + 1, upd ad i a', upd cp i c', by omega, by go_num, hT6, fun j hj => ?_, fun j hj => ?_, ?_, ?_, ?_⟩, by simp only [intOf]; omega⟩
        · unfold upd
          rw [if_neg (by omega), if_neg (by omega)]
          exact HL.out j (by omega)
        · by_cases e : j = i
          · subst e
            unfold upd
            rw [if_pos rfl, if_pos rfl, ← HX.out]
            exact ⟨hc1, hc2, (hsp.low (by omega)).away (by omega) _⟩
          · unfold upd
            rw [if_neg e, if_neg e]
            obtain ⟨o1, o2, o3⟩ := hO j (by omega)
            exact ⟨o1, o2, (o3.below hb5).away (by omega) _⟩
        · exact (Below.heap_setCell w5 ⟨z + 1, i, none⟩ _ z (fun e => by have e' : z = z + 1 := e; omega)).trans ((hb5.block z (by omega)).trans hW)
        · exact (hB.trans (hb5.mono (by rw [HZ.out]; exact hB.size))).setCell (p := ⟨z + 1, i, none⟩) (show z ≤ z + 1 by omega) _
        · simp; have := hb5.size; omega
      · have hi4 : i = 4 := by omega
        subst hi4
        have q0 : wr.cell? ⟨z + 1, 0, none⟩ = some (.slice (ad 0) 0 (cp 0)) := hT.cell (j := 0) (by omega)
        have q1 : wr.cell? ⟨z + 1, 1, none⟩ = some (.slice (ad 1) A.length (cp 1)) := hT.cell (j := 1) (by omega)
        have q2 : wr.cell? ⟨z + 1, 2, none⟩ = some (.slice (ad 2) B.length (cp 2)) := hT.cell (j := 2) (by omega)
        have q3 : wr.cell? ⟨z + 1, 3, none⟩ = some (.slice (ad 3) C.length (cp 3)) := hT.cell (j := 3) (by omega)
        have ba : Below wr.heap.size wr (wr.alloc (.cells #[.slice (ad 0) 0 (cp 0), .slice (ad 1) A.length (cp 1), .slice (ad 2) B.length (cp 2), .slice (ad 3) C.length (cp 3)] 131)) := (Below.refl _ _).alloc (Nat.le_refl _) _
        have hWa := (ba.block z (by omega)).trans hW
        have x0 := cell_of_block hWa (i := 0)
        have x1 := cell_of_block hWa (i := 1)
        have x2 := cell_of_block hWa (i := 2)
        have fz := fun j => unfrozen_of_block hWa j
        have hOT : OwnT (wr.alloc (.cells #[.slice (ad 0) 0 (cp 0), .slice (ad 1) A.length (cp 1), .slice (ad 2) B.length (cp 2), .slice (ad 3) C.length (cp 3)] 131)) (z + 1) wr.heap.size A B C :=
          ⟨ad, cp, by omega, heap_alloc_new _ _, fun j hj => ⟨(hO j hj).1, (hO j hj).2.1, ((hO j hj).2.2.below ba).low (by omega)⟩⟩
        have HWa : Hid ((wr.alloc (.cells #[.slice (ad 0) 0 (cp 0), .slice (ad 1) A.length (cp 1), .slice (ad 2) B.length (cp 2), .slice (ad 3) C.length (cp 3)] 131)).heap[z]? = some (.cells #[.int .i64 0, .int .i64 0, .int .i64 0] 101 (0, 0))) := hWa
        have HO : Hid (OwnT (wr.alloc (.cells #[.slice (ad 0) 0 (cp 0), .slice (ad 1) A.length (cp 1), .slice (ad 2) B.length (cp 2), .slice (ad 3) C.length (cp 3)] 131)) (z + 1) wr.heap.size A B C) := hOT
        clear hT hWa hW hOT hO hLs hL0 hcl
        go_wp2_with fail
        have hfin := wr_set HWa.out (u0 := .int .i64 0) (u1 := .int .i64 0) (u2 := .int .i64 0)
        have hBf := wr_below (hB.trans (ba.mono (by rw [HZ.out]; exact hB.size))) (g := z) (u0 := .int .i64 0) (u1 := .int .i64 0) (u2 := .int .i64 0) (Nat.le_refl _)
        have hOf := ((HO.out.away (b := z) (o := 0) (by omega) (.int .i64 0)).away (b := z) (o := 1) (by omega) (.int .i64 0)).away (b := z) (o := 2) (by omega) (.int .i64 0)
        clear x0 x1 x2 q0 q1 q2 q3 fz
        obtain ⟨W4, hW4⟩ : ∃ W4, W4 = (((wr.alloc (.cells #[.slice (ad 0) 0 (cp 0), .slice (ad 1) A.length (cp 1), .slice (ad 2) B.length (cp 2), .slice (ad 3) C.length (cp 3)] 131)).setCell ⟨z, 0, none⟩ (.int .i64 0)).setCell ⟨z, 1, none⟩ (.int .i64 0)).setCell ⟨z, 2, none⟩ (.int .i64 0) := ⟨_, rfl⟩
        rw [← hW4] at hfin hBf hOf ⊢
        clear hW4
        have y0 := cell_of_block hfin (i := 0)
        have y1 := cell_of_block hfin (i := 1)
        have y2 := cell_of_block hfin (i := 2)
        exact bodyPost_ret (v := .tuple #[.pointer (some ⟨wr.heap.size, 0, none⟩), .agg #[.int .i64 0, .int .i64 0, .int .i64 0]]) (by simp [results, Tryd.results42, go_sem, y0, y1, y2]) rfl ⟨_, rfl, ⟨_, rfl, hOf.low (by have := HZ.out; omega)⟩, by rw [← HZ.out]; exact hBf⟩
  · have hne : ((y : Int) != 0) = true := by simp; omega
    have n0 := cell_of_block hN3 (i := 0)
    have n1 := cell_of_block hN3 (i := 1)
    have n2 := cell_of_block hN3 (i := 2)
    have f0 := fun j => unfrozen_of_block hW3 j
    clear hA3 hB3 hC3 hL3 HPS
    have x0 := cell_of_block hW3 (i := 0)
    have x1 := cell_of_block hW3 (i := 1)
    have x2 := cell_of_block hW3 (i := 2)
    have HW3 := hW3
    clear hW3
    go_wp2_with fail
    go_region
    have hfin := wr_set HW3 (u0 := .int .i64 (y : Nat)) (u1 := .int .i64 (li : Nat)) (u2 := .int .i64 (ro : Nat))
    have hBf := (wr_below B3 (g := w.heap.size) (u0 := .int .i64 (y : Nat)) (u1 := .int .i64 (li : Nat)) (u2 := .int .i64 (ro : Nat)) (Nat.le_refl _)).drew
    clear x0 x1 x2 n0 n1 n2 f0 HW3 B3
    obtain ⟨W4, hW4⟩ : ∃ W4, W4 = ((((w1.alloc (.cells #[.int .i64 (y : Nat), .int .i64 (li : Nat), .int .i64 (ro : Nat)] 101)).setCell ⟨w.heap.size, 0, none⟩ (.int .i64 (y : Nat))).setCell ⟨w.heap.size, 1, none⟩ (.int .i64 (li : Nat))).setCell ⟨w.heap.size, 2, none⟩ (.int .i64 (ro : Nat))).drew := ⟨_, rfl⟩
    have hfin : W4.heap[w.heap.size]? = some (.cells #[.int .i64 (y : Nat), .int .i64 (li : Nat), .int .i64 (ro : Nat)] 101 (0, 0)) := by rw [hW4]; exact hfin
    rw [← hW4] at hBf ⊢
    clear hW4
    have y0 := cell_of_block hfin (i := 0)
    have y1 := cell_of_block hfin (i := 1)
    have y2 := cell_of_block hfin (i := 2)
    go_wp2_with fail
    exact bodyPost_ret (v := .tuple #[.pointer none, .agg #[.int .i64 (y : Nat), .int .i64 (li : Nat), .int .i64 (ro : Nat)]]) (by simp [results, Tryd.results42, go_sem, y0, y1, y2]) rfl ⟨_, rfl, fun h => absurd h h0, fun _ => rfl, hBf⟩
end Go.Proofs.YtjbdhakogbolkaaDoor
end
