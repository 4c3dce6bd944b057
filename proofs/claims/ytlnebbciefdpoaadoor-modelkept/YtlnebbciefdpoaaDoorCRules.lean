/- classes.tooMany, notRight, over: their contracts. -/
import Derived.Test.YtlnebbciefdpoaaDoorCMath
import Derived.Test.YtlnebbciefdpoaaDoorSMeet
import Derived.Test.YtlnebbciefdpoaaDoorSCells
namespace Go.Proofs.YtlnebbciefdpoaaDoor
open Go.RowKit Go.Sort
/-- The value of lists. -/
def lsV (a b c : Option Addr) (na ca nb cb nc cc : Nat) : Value := .agg #[.slice none 0 0, .slice a na ca, .slice b nb cb, .slice c nc cc]
set_option maxHeartbeats 1000000 in
theorem tooMany_any (a b c : Option Addr) (ca cb cc : Nat) (A B C : List Sp) (i : Nat) (hi : i = 1 ∨ i = 2 ∨ i = 3) (w : World) :
    Calls Tryd.prog 72 #[lsV a b c A.length ca B.length cb C.length cc, .int .i64 (i : Nat)] w fun e w' => e = .returned (rowV (ruleA A B C 0 i)) ∧ Below w.heap.size w w' := by
  have hb := fun o => (Below.refl w.heap.size w).alloc (Nat.le_refl _) o
  unfold lsV
  rcases hi with rfl | rfl | rfl
  · show Calls _ _ _ _ fun e w' => e = .returned (rowV (manyA A)) ∧ _
    unfold manyA
    by_cases h : 512 < A.length
    · rw [if_pos h]
      have hd : decide ((512 : Int) < (A.length : Int)) = true := decide_eq_true (by omega)
      go_enter Tryd.func72, Tryd.ntmps72
      go_wp2
      exact bodyPost_ret (v := rowV (512, 4)) (by simp [results, Tryd.results72, go_sem, rowV]) rfl ⟨rfl, hb _⟩
    · rw [if_neg h]
      have hd : decide ((512 : Int) < (A.length : Int)) = false := decide_eq_false (by omega)
      go_enter Tryd.func72, Tryd.ntmps72
      go_wp2
      exact bodyPost_ret (v := rowV (0, 0)) (by simp [results, Tryd.results72, go_sem, rowV]) rfl ⟨rfl, hb _⟩
  · show Calls _ _ _ _ fun e w' => e = .returned (rowV (manyA B)) ∧ _
    unfold manyA
    by_cases h : 512 < B.length
    · rw [if_pos h]
      have hd : decide ((512 : Int) < (B.length : Int)) = true := decide_eq_true (by omega)
      go_enter Tryd.func72, Tryd.ntmps72
      go_wp2
      exact bodyPost_ret (v := rowV (512, 4)) (by simp [results, Tryd.results72, go_sem, rowV]) rfl ⟨rfl, hb _⟩
    · rw [if_neg h]
      have hd : decide ((512 : Int) < (B.length : Int)) = false := decide_eq_false (by omega)
      go_enter Tryd.func72, Tryd.ntmps72
      go_wp2
      exact bodyPost_ret (v := rowV (0, 0)) (by simp [results, Tryd.results72, go_sem, rowV]) rfl ⟨rfl, hb _⟩
  · show Calls _ _ _ _ fun e w' => e = .returned (rowV (manyA C)) ∧ _
    unfold manyA
    by_cases h : 512 < C.length
    · rw [if_pos h]
      have hd : decide ((512 : Int) < (C.length : Int)) = true := decide_eq_true (by omega)
      go_enter Tryd.func72, Tryd.ntmps72
      go_wp2
      exact bodyPost_ret (v := rowV (512, 4)) (by simp [results, Tryd.results72, go_sem, rowV]) rfl ⟨rfl, hb _⟩
    · rw [if_neg h]
      have hd : decide ((512 : Int) < (C.length : Int)) = false := decide_eq_false (by omega)
      go_enter Tryd.func72, Tryd.ntmps72
      go_wp2
      exact bodyPost_ret (v := rowV (0, 0)) (by simp [results, Tryd.results72, go_sem, rowV]) rfl ⟨rfl, hb _⟩
/-- A list that was handed in. -/
structure Lst (w : World) (a : Option Addr) (c : Nat) (l : List Sp) : Prop where
  le : l.length ≤ c
  cap : c ≤ 9223372036854775807
  at' : SPS w a l
theorem Lst.below {w w' : World} {a : Option Addr} {c : Nat} {l : List Sp} (h : Lst w a c l) (hb : Below w.heap.size w w') : Lst w' a c l := ⟨h.le, h.cap, h.at'.below hb⟩
theorem Lst.len {w : World} {a : Option Addr} {c : Nat} {l : List Sp} (h : Lst w a c l) : l.length ≤ 9223372036854775807 := Nat.le_trans h.le h.cap
set_option maxHeartbeats 1000000 in
theorem notRight_any (a b c : Option Addr) (ca cb cc : Nat) (A B C : List Sp) (i : Nat) (hi : i = 1 ∨ i = 2 ∨ i = 3) (w : World) (hA : Lst w a ca A) (hB : Lst w b cb B) (hC : Lst w c cc C) (hG : GL w) :
    Calls Tryd.prog 73 #[lsV a b c A.length ca B.length cb C.length cc, .int .i64 (i : Nat)] w fun e w' => e = .returned (rowV (ruleA A B C 1 i)) ∧ Below w.heap.size w w' := by
  have hb := fun o => (Below.refl w.heap.size w).alloc (Nat.le_refl _) o
  unfold lsV
  have HA := fun wx (h : Lst wx a ca A) (hg : GL wx) => right_any a ca A wx h.len h.at' hg
  have HB := fun wx (h : Lst wx b cb B) (hg : GL wx) => right_any b cb B wx h.len h.at' hg
  have HC := fun wx (h : Lst wx c cc C) (hg : GL wx) => right_any c cc C wx h.len h.at' hg
  unfold rowV at HA HB HC
  rcases hi with rfl | rfl | rfl
  · show Calls _ _ _ _ fun e w' => e = .returned (.tuple #[.int .i64 ((rightA A).1 : Nat), .int .i64 ((rightA A).2 : Nat)]) ∧ _
    obtain ⟨⟨p, e⟩, hm⟩ : ∃ m, m = rightA A := ⟨_, rfl⟩
    rw [← hm] at HA ⊢
    clear hm HB HC
    go_enter Tryd.func73, Tryd.ntmps73
    go_wp2_with fail
    refine (HA _ (hA.below (hb _)) (hG.below (hb _))).mono ?_
    rintro e w1 ⟨rfl, hb1⟩
    go_wp2_with fail
    exact bodyPost_ret (v := rowV (_, _)) (by simp [results, Tryd.results73, go_sem, rowV]) rfl ⟨rfl, (hb _).trans (hb1.mono (hb _).size)⟩
  · show Calls _ _ _ _ fun e w' => e = .returned (.tuple #[.int .i64 ((rightA B).1 : Nat), .int .i64 ((rightA B).2 : Nat)]) ∧ _
    obtain ⟨⟨p, e⟩, hm⟩ : ∃ m, m = rightA B := ⟨_, rfl⟩
    rw [← hm] at HB ⊢
    clear hm HA HC
    go_enter Tryd.func73, Tryd.ntmps73
    go_wp2_with fail
    refine (HB _ (hB.below (hb _)) (hG.below (hb _))).mono ?_
    rintro e w1 ⟨rfl, hb1⟩
    go_wp2_with fail
    exact bodyPost_ret (v := rowV (_, _)) (by simp [results, Tryd.results73, go_sem, rowV]) rfl ⟨rfl, (hb _).trans (hb1.mono (hb _).size)⟩
  · show Calls _ _ _ _ fun e w' => e = .returned (.tuple #[.int .i64 ((rightA C).1 : Nat), .int .i64 ((rightA C).2 : Nat)]) ∧ _
    obtain ⟨⟨p, e⟩, hm⟩ : ∃ m, m = rightA C := ⟨_, rfl⟩
    rw [← hm] at HC ⊢
    clear hm HA HB
    go_enter Tryd.func73, Tryd.ntmps73
    go_wp2_with fail
    refine (HC _ (hC.below (hb _)) (hG.below (hb _))).mono ?_
    rintro e w1 ⟨rfl, hb1⟩
    go_wp2_with fail
    exact bodyPost_ret (v := rowV (_, _)) (by simp [results, Tryd.results73, go_sem, rowV]) rfl ⟨rfl, (hb _).trans (hb1.mono (hb _).size)⟩
end Go.Proofs.YtlnebbciefdpoaaDoor
