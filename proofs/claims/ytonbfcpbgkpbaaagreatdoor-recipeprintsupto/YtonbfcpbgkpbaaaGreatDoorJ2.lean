import Derived.Test.YtonbfcpbgkpbaaaGreatDoorJ1
import Derived.Test.YtonbfcpbgkpbaaaGreatDoorJ0
import Derived.Deep.RegionHeld3
import Derived.Deep.DrawnRows
import Derived.Deep.Draws
import Derived.WalkKit
import Derived.ProofKit
import Derived.Below
import Derived.OpenShut
import Derived.Test.YtonbfcpbgkpbaaaGreatDoorRows
import Derived.Lib.SmallJoins
import Derived.Test.YtonbfcpbgkpbaaaGreatDoorProg
import Derived.Lib.AppendStr
import Derived.WalkSpells
import Derived.WalkLawsBesides
import Derived.OwnWalk
import Derived.Laws.BytesArg
import Derived.Laws.BytesString
section
/- recipe's parser in memory; its scanner's smallest calls. -/
namespace Go.Proofs.YtonbfcpbgkpbaaaGreatDoor
open Go.RowKit Go.Sort Go.Joins
set_option linter.unusedVariables false
set_option maxRecDepth 100000
/-- What a parser holds. -/
structure PZ where
  src : ByteArray
  p : Nat
  k : Nat
  t : Nat
  s : ByteArray
  M : Value
  W0 : Value
  M0 : Value
  A : Value
  B : Value
  C : Value
  why : Nat
  at' : Nat
def PZ.cells (s : PZ) : Array Value := #[.string s.src, .int .i64 (s.p : Nat), .int .i64 (s.k : Nat), .int .i64 (s.t : Nat), .string s.s, s.M, s.W0, s.M0, s.A, s.B, s.C, .int .i64 (s.why : Nat), .int .i64 (s.at' : Nat)]
/-- A parser lies at block g. -/
def PB (w : World) (g : Nat) (s : PZ) : Prop := w.heap[g]? = some (.cells s.cells 95 (0, 0))
theorem PB.lt {w : World} {g : Nat} {s : PZ} (h : PB w g s) : g < w.heap.size := (Array.getElem?_eq_some_iff.1 h).1
theorem PB.cell {w : World} {g : Nat} {s : PZ} (h : PB w g s) (i : Nat) : w.cell? ⟨g, i, none⟩ = s.cells[i]? := cell_of_block h i
theorem PB.c0 {w : World} {g : Nat} {s : PZ} (h : PB w g s) : w.cell? ⟨g, 0, none⟩ = some (.string s.src) := (h.cell 0).trans rfl
theorem PB.c1 {w : World} {g : Nat} {s : PZ} (h : PB w g s) : w.cell? ⟨g, 1, none⟩ = some (.int .i64 (s.p : Nat)) := (h.cell 1).trans rfl
theorem PB.c2 {w : World} {g : Nat} {s : PZ} (h : PB w g s) : w.cell? ⟨g, 2, none⟩ = some (.int .i64 (s.k : Nat)) := (h.cell 2).trans rfl
theorem PB.c3 {w : World} {g : Nat} {s : PZ} (h : PB w g s) : w.cell? ⟨g, 3, none⟩ = some (.int .i64 (s.t : Nat)) := (h.cell 3).trans rfl
theorem PB.c4 {w : World} {g : Nat} {s : PZ} (h : PB w g s) : w.cell? ⟨g, 4, none⟩ = some (.string s.s) := (h.cell 4).trans rfl
theorem PB.c5 {w : World} {g : Nat} {s : PZ} (h : PB w g s) : w.cell? ⟨g, 5, none⟩ = some s.M := (h.cell 5).trans rfl
theorem PB.c6 {w : World} {g : Nat} {s : PZ} (h : PB w g s) : w.cell? ⟨g, 6, none⟩ = some s.W0 := (h.cell 6).trans rfl
theorem PB.c7 {w : World} {g : Nat} {s : PZ} (h : PB w g s) : w.cell? ⟨g, 7, none⟩ = some s.M0 := (h.cell 7).trans rfl
theorem PB.c8 {w : World} {g : Nat} {s : PZ} (h : PB w g s) : w.cell? ⟨g, 8, none⟩ = some s.A := (h.cell 8).trans rfl
theorem PB.c9 {w : World} {g : Nat} {s : PZ} (h : PB w g s) : w.cell? ⟨g, 9, none⟩ = some s.B := (h.cell 9).trans rfl
theorem PB.c10 {w : World} {g : Nat} {s : PZ} (h : PB w g s) : w.cell? ⟨g, 10, none⟩ = some s.C := (h.cell 10).trans rfl
theorem PB.c11 {w : World} {g : Nat} {s : PZ} (h : PB w g s) : w.cell? ⟨g, 11, none⟩ = some (.int .i64 (s.why : Nat)) := (h.cell 11).trans rfl
theorem PB.c12 {w : World} {g : Nat} {s : PZ} (h : PB w g s) : w.cell? ⟨g, 12, none⟩ = some (.int .i64 (s.at' : Nat)) := (h.cell 12).trans rfl
theorem PB.free {w : World} {g : Nat} {s : PZ} (h : PB w g s) (i : Nat) : w.frozen? ⟨g, i, none⟩ = false := unfrozen_of_block h i
theorem PB.below {w w' : World} {g B : Nat} {s : PZ} (h : PB w g s) (hb : Below B w w') (hg : g < B) : PB w' g s := (hb.block g hg).trans h
theorem PB.other {w : World} {g b o : Nat} {s : PZ} (h : PB w g s) (hb : g ≠ b) (v : Value) : PB (w.setCell ⟨b, o, none⟩ v) g s := (Below.heap_setCell _ _ _ _ hb).trans h
theorem PB.set {w : World} {g : Nat} {s : PZ} (h : PB w g s) (i : Nat) (v : Value) {s' : PZ} (he : s.cells.setIfInBounds i v = s'.cells) : PB (w.setCell ⟨g, i, none⟩ v) g s' := by
  have := block_setCell h (i := i) v
  rw [he] at this
  exact this
theorem PB.setP {w : World} {g : Nat} {s : PZ} (h : PB w g s) (q : Nat) : PB (w.setCell ⟨g, 1, none⟩ (.int .i64 (q : Nat))) g { s with p := q } := h.set 1 _ rfl
theorem PB.setK {w : World} {g : Nat} {s : PZ} (h : PB w g s) (q : Nat) : PB (w.setCell ⟨g, 2, none⟩ (.int .i64 (q : Nat))) g { s with k := q } := h.set 2 _ rfl
theorem PB.setT {w : World} {g : Nat} {s : PZ} (h : PB w g s) (q : Nat) : PB (w.setCell ⟨g, 3, none⟩ (.int .i64 (q : Nat))) g { s with t := q } := h.set 3 _ rfl
theorem PB.setS {w : World} {g : Nat} {s : PZ} (h : PB w g s) (q : ByteArray) : PB (w.setCell ⟨g, 4, none⟩ (.string q)) g { s with s := q } := h.set 4 _ rfl
theorem PB.setM {w : World} {g : Nat} {s : PZ} (h : PB w g s) (v : Value) : PB (w.setCell ⟨g, 5, none⟩ v) g { s with M := v } := h.set 5 _ rfl
theorem PB.setW0 {w : World} {g : Nat} {s : PZ} (h : PB w g s) (v : Value) : PB (w.setCell ⟨g, 6, none⟩ v) g { s with W0 := v } := h.set 6 _ rfl
theorem PB.setM0 {w : World} {g : Nat} {s : PZ} (h : PB w g s) (v : Value) : PB (w.setCell ⟨g, 7, none⟩ v) g { s with M0 := v } := h.set 7 _ rfl
theorem PB.setA {w : World} {g : Nat} {s : PZ} (h : PB w g s) (v : Value) : PB (w.setCell ⟨g, 8, none⟩ v) g { s with A := v } := h.set 8 _ rfl
theorem PB.setB {w : World} {g : Nat} {s : PZ} (h : PB w g s) (v : Value) : PB (w.setCell ⟨g, 9, none⟩ v) g { s with B := v } := h.set 9 _ rfl
theorem PB.setC {w : World} {g : Nat} {s : PZ} (h : PB w g s) (v : Value) : PB (w.setCell ⟨g, 10, none⟩ v) g { s with C := v } := h.set 10 _ rfl
theorem PB.setWhy {w : World} {g : Nat} {s : PZ} (h : PB w g s) (q : Nat) : PB (w.setCell ⟨g, 11, none⟩ (.int .i64 (q : Nat))) g { s with why := q } := h.set 11 _ rfl
theorem PB.setAt {w : World} {g : Nat} {s : PZ} (h : PB w g s) (q : Nat) : PB (w.setCell ⟨g, 12, none⟩ (.int .i64 (q : Nat))) g { s with at' := q } := h.set 12 _ rfl
theorem hereI_end {l : List UInt8} {k : Nat} (h : l.length ≤ k) : hereI l k = -1 := by unfold hereI; rw [List.getElem?_eq_none h]
theorem hereI_at {l : List UInt8} {k : Nat} (h : k < l.length) : hereI l k = (l[k].toNat : Int) := by unfold hereI; rw [List.getElem?_eq_getElem h]
theorem hereI_ge (l : List UInt8) (k : Nat) : -1 ≤ hereI l k ∧ hereI l k ≤ 255 := by
  unfold hereI
  split
  · omega
  · rename_i c _
    have := UInt8.toNat_lt c
    omega
set_option maxHeartbeats 1000000 in
theorem here_any (g : Nat) (s : PZ) (w : World) (h : PB w g s) (hp : s.p ≤ s.src.size) (hs : s.src.size ≤ 9223372036854775807) :
    Calls Tryz.prog 77 #[.pointer (some ⟨g, 0, none⟩)] w fun e w' => e = .returned (.int .i64 (hereI (tl s.src) s.p)) ∧ Below w.heap.size w w' := by
  have c0 := h.c0
  have c1 := h.c1
  obtain ⟨src, p, k, t, ss, M, W0, M0, A, B, C, why, at'⟩ := s
  simp only at *
  clear h
  by_cases hlt : p < src.size
  · have hH : hereI (tl src) p = ((src[p]).toNat : Int) := hereI_at (l := tl src) (by simpa using hlt)
    rw [hH]
    have hne : ((p : Int) == (src.size : Int)) = false := by simp; omega
    have hb := UInt8.toNat_lt (src[p])
    clear hH
    go_enter Tryz.func77, Tryz.ntmps77
    go_wp2_with fail
    go_quiet (fail)
    go_wp2_with fail
    go_quiet (fail)
    go_wp2_with fail
    go_ret
    exact ⟨rfl, by first | exact (below_drewN (below_drewN (Below.refl _ _) _) _) | exact below_drewN (Below.refl _ _) _⟩
  · have hpe : p = src.size := by omega
    subst hpe
    rw [hereI_end (by simp)]
    have hne : ((src.size : Int) == (src.size : Int)) = true := by simp
    go_enter Tryz.func77, Tryz.ntmps77
    go_wp2_with fail
    go_quiet (fail)
    go_wp2_with fail
    go_ret
    exact ⟨rfl, below_drewN (Below.refl _ _) _⟩
end Go.Proofs.YtonbfcpbgkpbaaaGreatDoor
end
section
/- A scope with labels: what holds at each, by a number that falls. recipe's read, stands: their contracts. -/
namespace Go.Proofs.YtonbfcpbgkpbaaaGreatDoor
open Go.RowKit Go.Sort Go.Joins
set_option linter.unusedVariables false
set_option maxRecDepth 100000
theorem viaL_mono {L L' : Nat → Act → World → Prop} {Q : Exit → Act → World → Prop} (h : ∀ l a w, L l a w → L' l a w) : ∀ e a w, viaL L Q e a w → viaL L' Q e a w := by
  intro e a w hv
  cases e <;> first | exact h _ _ _ hv | exact hv
/-- Of whatever holds at the labels, where each way from one label to the next lowers a number. -/
theorem on_all {P : Program} {c : Code} {Q : Exit → Act → World → Prop} (J : Nat → Nat → Act → World → Prop)
    (step : ∀ n l a w, J n l a w → ∃ rest, findLabel c l = some (.seq .skip rest) ∧ rest.wp P (viaL (fun l' a' w' => ∃ m, m < n ∧ J m l' a' w') Q) a w) :
    ∀ n l a w, J n l a w → On P c Q l a w := by
  intro n
  induction n using Nat.strongRecOn with
  | _ n ih =>
    intro l a w h
    obtain ⟨rest, hf, hr⟩ := step n l a w h
    refine on_label hf (wp_seq (wp_skip (show Exit.then _ _ .normal _ _ from Code.wp_mono ?_ hr)))
    exact viaL_mono fun l' a' w' ⟨m, hm, hJ⟩ => ih m hm l' a' w' hJ
def nextP (l : List UInt8) (p : Nat) : Nat := if p < l.length then p + 1 else p
set_option maxHeartbeats 1000000 in
theorem read_any (g : Nat) (s : PZ) (w : World) (h : PB w g s) (hp : s.p ≤ s.src.size) (hs : s.src.size ≤ 4194304) :
    Calls Tryz.prog 96 #[.pointer (some ⟨g, 0, none⟩)] w fun e w' => e = .returned (.int .i64 (hereI (tl s.src) s.p)) ∧ PB w' g { s with p := nextP (tl s.src) s.p } ∧ But g w.heap.size w w' := by
  have hH := fun wx (hx : PB wx g s) => here_any g s wx hx hp (by omega)
  have hg := hereI_ge (tl s.src) s.p
  unfold nextP
  rw [tl_len]
  by_cases hlt : s.p < s.src.size
  · rw [if_pos hlt]
    have hne : (hereI (tl s.src) s.p == -1) = false := by
      rw [hereI_at (l := tl s.src) (by simpa using hlt)]
      simp
    have hne2 : (hereI (tl s.src) s.p != -1) = true := by
      rw [hereI_at (l := tl s.src) (by simpa using hlt)]
      simp
    obtain ⟨c, hc⟩ : ∃ c, c = hereI (tl s.src) s.p := ⟨_, rfl⟩
    rw [← hc] at hH hg hne hne2 ⊢
    clear hc
    have hp2 : s.p ≤ 4194304 := by omega
    go_enter Tryz.func96, Tryz.ntmps96
    go_wp2_with fail
    refine (hH _ h).mono ?_
    rintro e w1 ⟨rfl, hb⟩
    have h1 := h.below hb h.lt
    have c1 := h1.c1
    have f1 := h1.free 1
    clear hH
    go_wp2_with fail
    go_ret
    exact ⟨rfl, h1.setP (s.p + 1), (But.of_below hb).setCell _ _⟩
  · rw [if_neg hlt]
    have hpe : hereI (tl s.src) s.p = -1 := hereI_end (by simp; omega)
    rw [hpe] at hH ⊢
    clear hpe hg
    go_enter Tryz.func96, Tryz.ntmps96
    go_wp2_with fail
    refine (hH _ h).mono ?_
    rintro e w1 ⟨rfl, hb⟩
    have h1 := h.below hb h.lt
    clear hH
    go_wp2_with fail
    go_ret
    exact ⟨rfl, h1, But.of_below hb⟩
set_option maxHeartbeats 1000000 in
theorem standsR_any (g : Nat) (s : PZ) (what : ByteArray) (w : World) (h : PB w g s) (hp : s.p ≤ s.src.size) (hs : s.src.size ≤ 4194304) :
    Calls Tryz.prog 81 #[.pointer (some ⟨g, 0, none⟩), .string what] w fun e w' => e = .returned (.bool (preB (s.src.extract s.p s.src.size) what)) ∧ Below w.heap.size w w' := by
  have c0 := h.c0
  have c1 := h.c1
  have HP := fun wx => prefix_any (s.src.extract s.p s.src.size) what (by simp; omega) wx
  obtain ⟨src, p, k, t, ss, M, W0, M0, A, B, C, why, at'⟩ := s
  simp only at *
  obtain ⟨b, hb⟩ : ∃ b, b = preB (src.extract p src.size) what := ⟨_, rfl⟩
  rw [← hb] at HP ⊢
  clear h hb
  go_enter Tryz.func81, Tryz.ntmps81
  go_wp2_with fail
  go_quiet ((go_at_call 98; exact Calls.quiet_of_same (HP _)))
  go_wp2_with fail
  go_ret
  exact ⟨rfl, below_drewN (Below.refl _ _) _⟩
end Go.Proofs.YtonbfcpbgkpbaaaGreatDoor
end
section
/- recipe's scanner.skip: its contract. -/
namespace Go.Proofs.YtonbfcpbgkpbaaaGreatDoor
open Go.RowKit Go.Sort Go.Joins
set_option linter.unusedVariables false
set_option linter.unusedSimpArgs false
set_option maxRecDepth 100000
/-- The code of a scope that is a body. -/
def scopeB (f : Func) : Code := match f.body with
  | some (.scope c) => c
  | _ => .skip
def FSk (g : Nat) (a : Act) : Prop := ∃ t1 t2 t3 t4 t5 t6 t7 t8 t9 t10 t11 t12 t13 t14 t15 t16 t17 t18 t19 t20 t21 t22 t23 t24 t25 t26 t27 t28 t29 t30 t31 t32 t33, a = ⟨#[.pointer (some ⟨g, 0, none⟩), t1, t2, t3, t4, t5, t6, t7, t8, t9, t10, t11, t12, t13, t14, t15, t16, t17, t18, t19, t20, t21, t22, t23, t24, t25, t26, t27, t28, t29, t30, t31, t32, t33], []⟩
def mSk (r : Bool) (l : List UInt8) (k : Nat) : Nat := if r = true then (if hereI l k = 10 ∨ hereI l k = -1 then 3 * (l.length - k) + 2 else 3 * (l.length - k)) else 3 * (l.length - k) + 1
theorem mSk_false (l : List UInt8) (k : Nat) : mSk false l k = 3 * (l.length - k) + 1 := rfl
theorem mSk_end {l : List UInt8} {k : Nat} (h : hereI l k = 10 ∨ hereI l k = -1) : mSk true l k = 3 * (l.length - k) + 2 := by unfold mSk; rw [if_pos rfl, if_pos h]
theorem mSk_in {l : List UInt8} {k : Nat} (h : ¬ (hereI l k = 10 ∨ hereI l k = -1)) : mSk true l k = 3 * (l.length - k) := by unfold mSk; rw [if_pos rfl, if_neg h]
theorem mSk_le (l : List UInt8) (k : Nat) : mSk true l k ≤ 3 * (l.length - k) + 2 := by
  by_cases h : hereI l k = 10 ∨ hereI l k = -1
  · rw [mSk_end h]; omega
  · rw [mSk_in h]; omega
def JSk (w : World) (g : Nat) (s : PZ) (f n lb : Nat) (a : Act) (wr : World) : Prop :=
  FSk g a ∧ ∃ (r : Bool) (k : Nat), lb = (if r = true then 1 else 0) ∧ n = mSk r (tl s.src) k ∧ k ≤ s.src.size ∧ k + skipN r ((tl s.src).drop k) = f ∧ PB wr g { s with p := k } ∧ But g w.heap.size w wr
abbrev SkQ (w : World) (g : Nat) (s : PZ) (f : Nat) : Exit → Act → World → Prop := bodyPost Tryz.prog Tryz.f76 fun e w' => e = .returned (.tuple #[]) ∧ PB w' g { s with p := f } ∧ But g w.heap.size w w'
def restQ (c : Code) (l : Nat) : Code := match findLabel c l with
  | some (.seq _ c) => c
  | _ => .skip
theorem drop_cons (l : List UInt8) (k : Nat) (h : k < l.length) : l.drop k = l[k] :: l.drop (k + 1) := List.drop_eq_getElem_cons h
set_option maxHeartbeats 4000000 in
theorem skip_step (w : World) (g : Nat) (s : PZ) (f : Nat) (hs : s.src.size ≤ 4194304) (n lb : Nat) (a : Act) (wr : World) (h : JSk w g s f n lb a wr) :
    ∃ rest, findLabel (scopeB Tryz.f76) lb = some (.seq .skip rest) ∧ rest.wp Tryz.prog (viaL (fun l' a' w' => ∃ m, m < n ∧ JSk w g s f m l' a' w') (SkQ w g s f)) a wr := by
  obtain ⟨⟨t1, t2, t3, t4, t5, t6, t7, t8, t9, t10, t11, t12, t13, t14, t15, t16, t17, t18, t19, t20, t21, t22, t23, t24, t25, t26, t27, t28, t29, t30, t31, t32, t33, rfl⟩, r, k, rfl, rfl, hk, hf, hP, hB⟩ := h
  have hlt := hP.lt
  have hH := here_any g { s with p := k } wr hP hk (by simp only; omega)
  simp only at hH
  have hge := hereI_ge (tl s.src) k
  have hk4 : k ≤ 4194304 := by omega
  cases r with
  | false =>
    rw [mSk_false]
    refine ⟨_, rfl, ?_⟩
    by_cases hl : k < s.src.size
    · have hkl : k < (tl s.src).length := by simpa using hl
      rw [drop_cons _ k hkl, skipN, if_neg (by decide)] at hf
      have hc := hereI_at hkl
      have hb8 := UInt8.toNat_lt ((tl s.src)[k])
      obtain ⟨c, hcc⟩ : ∃ c, c = (tl s.src)[k] := ⟨_, rfl⟩
      rw [← hcc] at hf hc hb8
      rw [hc] at hH
      have hO := fun wx => isOneOf_any (c.toNat : Int) blankS (by omega) (by omega) wx
      rw [oneI_blank] at hO
      have HC := Lib.hid hc
      clear hcc hc hge
      by_cases hbl : blnkB c = true
      · rw [if_pos hbl] at hf
        rw [hbl] at hO
        have HF := Lib.hid hf
        clear hf hbl
        go_wp2_with fail
        refine hH.mono ?_
        rintro e w1 ⟨rfl, hb⟩
        have h1 := hP.below hb hlt
        have c1 := h1.c1
        have f1 := h1.free 1
        simp only at c1
        clear hH
        go_wp2_with fail
        refine (hO _).mono ?_
        rintro e w2 ⟨rfl, he⟩
        obtain rfl := he.symm
        clear hO
        go_wp2_with (apply wp_goto; change ∃ m, m < _ ∧ _)
        exact ⟨mSk false (tl s.src) (k + 1), (by rw [mSk_false, tl_len]; omega), ⟨_, _, _, _, _, _, _, _, _, _, _, _, _, _, _, _, _, _, _, _, _, _, _, _, _, _, _, _, _, _, _, _, _, rfl⟩, false, k + 1, rfl, mSk_false _ _, by omega, (by have := HF.out; omega), h1.setP (k + 1), (hB.trans (But.of_below (hb.mono hB.size))).setCell _ _⟩
      · rw [if_neg hbl] at hf
        have hbl : blnkB c = false := by simpa using hbl
        rw [hbl] at hO
        by_cases h35 : c.toNat = 35
        · rw [if_pos h35] at hf
          have hd : ((c.toNat : Int) == 35) = true := by simp [h35]
          have HF := Lib.hid hf
          have H35 := Lib.hid h35
          clear hf hbl h35
          go_wp2_with fail
          refine hH.mono ?_
          rintro e w1 ⟨rfl, hb⟩
          have h1 := hP.below hb hlt
          clear hH
          go_wp2_with fail
          refine (hO _).mono ?_
          rintro e w2 ⟨rfl, he⟩
          obtain rfl := he.symm
          clear hO
          go_wp2_with (apply wp_goto; change ∃ m, m < _ ∧ _)
          have hne : ¬ (hereI (tl s.src) k = 10 ∨ hereI (tl s.src) k = -1) := by rw [HC.out, H35.out]; decide
          refine ⟨mSk true (tl s.src) k, ?_, ⟨_, _, _, _, _, _, _, _, _, _, _, _, _, _, _, _, _, _, _, _, _, _, _, _, _, _, _, _, _, _, _, _, _, rfl⟩, true, k, rfl, rfl, hk, ?_, h1, hB.trans (But.of_below (hb.mono hB.size))⟩
          · rw [mSk_in hne]; omega
          · have := HF.out
            have e10 : ¬ ((tl s.src)[k]).toNat = 10 := by
              have h2 := HC.out
              rw [hereI_at hkl] at h2
              have h3 := H35.out
              omega
            rw [drop_cons _ k hkl, skipN, if_pos rfl, if_neg e10]
            omega
        · rw [if_neg h35] at hf
          have hd : ((c.toNat : Int) == 35) = false := by simp; omega
          have HF := Lib.hid hf
          clear hf hbl h35
          go_wp2_with fail
          refine hH.mono ?_
          rintro e w1 ⟨rfl, hb⟩
          have h1 := hP.below hb hlt
          clear hH
          go_wp2_with fail
          refine (hO _).mono ?_
          rintro e w2 ⟨rfl, he⟩
          obtain rfl := he.symm
          clear hO
          go_wp2_with fail
          rw [viaL_ret]
          refine bodyPost_ret (results_none rfl _ _ _) rfl ?_
          exact ⟨rfl, (by have e := HF.out; rw [Nat.add_zero] at e; rw [← e]; exact h1), hB.trans (But.of_below (hb.mono hB.size))⟩
    · have hke : k = s.src.size := by omega
      have hc := hereI_end (l := tl s.src) (k := k) (by simp; omega)
      rw [hc] at hH
      have hf2 : k = f := by
        rw [List.drop_of_length_le (by simp; omega)] at hf
        exact hf
      have HF := Lib.hid hf2
      have hO := fun wx => isOneOf_any (-1) blankS (by omega) (by omega) wx
      rw [show oneI (-1) blankS = false from rfl] at hO
      clear hf hf2 hc hke
      go_wp2_with fail
      refine hH.mono ?_
      rintro e w1 ⟨rfl, hb⟩
      have h1 := hP.below hb hlt
      clear hH
      go_wp2_with fail
      refine (hO _).mono ?_
      rintro e w2 ⟨rfl, he⟩
      obtain rfl := he.symm
      clear hO
      go_wp2_with fail
      rw [viaL_ret]
      refine bodyPost_ret (results_none rfl _ _ _) rfl ?_
      exact ⟨rfl, (by rw [← HF.out]; exact h1), hB.trans (But.of_below (hb.mono hB.size))⟩
  | true =>
    refine ⟨_, rfl, ?_⟩
    by_cases hl : k < s.src.size
    · have hkl : k < (tl s.src).length := by simpa using hl
      rw [drop_cons _ k hkl, skipN, if_pos rfl] at hf
      have hc := hereI_at hkl
      have hb8 := UInt8.toNat_lt ((tl s.src)[k])
      obtain ⟨c, hcc⟩ : ∃ c, c = (tl s.src)[k] := ⟨_, rfl⟩
      rw [← hcc] at hf hc hb8
      rw [hc] at hH
      have HC := Lib.hid hc
      have HCC := Lib.hid hcc
      clear hcc hc hge
      by_cases h10 : c.toNat = 10
      · rw [if_pos h10] at hf
        have hd : ((c.toNat : Int) == 10) = true := by simp [h10]
        have HF := Lib.hid hf
        have H10 := Lib.hid h10
        clear hf h10
        go_wp2_with fail
        refine hH.mono ?_
        rintro e w1 ⟨rfl, hb⟩
        have h1 := hP.below hb hlt
        clear hH
        go_wp2_with (apply wp_goto; change ∃ m, m < _ ∧ _)
        have hin : hereI (tl s.src) k = 10 ∨ hereI (tl s.src) k = -1 := by rw [HC.out, H10.out]; decide
        refine ⟨mSk false (tl s.src) k, ?_, ⟨_, _, _, _, _, _, _, _, _, _, _, _, _, _, _, _, _, _, _, _, _, _, _, _, _, _, _, _, _, _, _, _, _, rfl⟩, false, k, rfl, rfl, hk, ?_, h1, hB.trans (But.of_below (hb.mono hB.size))⟩
        · rw [mSk_end hin, mSk_false]; omega
        · have hbl : blnkB ((tl s.src)[k]) = true := by rw [← HCC.out]; unfold blnkB; rw [H10.out]; rfl
          rw [drop_cons _ k hkl, skipN, if_neg (by decide), if_pos hbl]
          exact HF.out
      · rw [if_neg h10] at hf
        have hd : ((c.toNat : Int) == 10) = false := by simp; omega
        have hd2 : ((c.toNat : Int) == -1) = false := by simp
        have HF := Lib.hid hf
        have H10 := Lib.hid h10
        clear hf h10
        go_wp2_with fail
        refine hH.mono ?_
        rintro e w1 ⟨rfl, hb⟩
        have h1 := hP.below hb hlt
        have c1 := h1.c1
        have f1 := h1.free 1
        simp only at c1
        clear hH
        go_wp2_with (apply wp_goto; change ∃ m, m < _ ∧ _)
        have hin : ¬ (hereI (tl s.src) k = 10 ∨ hereI (tl s.src) k = -1) := by rw [HC.out]; have := H10.out; omega
        refine ⟨mSk true (tl s.src) (k + 1), ?_, ⟨_, _, _, _, _, _, _, _, _, _, _, _, _, _, _, _, _, _, _, _, _, _, _, _, _, _, _, _, _, _, _, _, _, rfl⟩, true, k + 1, rfl, rfl, by omega, ?_, h1.setP (k + 1), (hB.trans (But.of_below (hb.mono hB.size))).setCell _ _⟩
        · rw [mSk_in hin]
          have := mSk_le (tl s.src) (k + 1)
          omega
        · have := HF.out
          omega
    · have hc := hereI_end (l := tl s.src) (k := k) (by simp; omega)
      rw [hc] at hH
      rw [List.drop_of_length_le (by simp; omega)] at hf
      have hf : k = f := hf
      have HF := Lib.hid hf
      have HC := Lib.hid hc
      clear hf hc
      go_wp2_with fail
      refine hH.mono ?_
      rintro e w1 ⟨rfl, hb⟩
      have h1 := hP.below hb hlt
      clear hH
      go_wp2_with (apply wp_goto; change ∃ m, m < _ ∧ _)
      refine ⟨mSk false (tl s.src) k, ?_, ⟨_, _, _, _, _, _, _, _, _, _, _, _, _, _, _, _, _, _, _, _, _, _, _, _, _, _, _, _, _, _, _, _, _, rfl⟩, false, k, rfl, rfl, hk, ?_, h1, hB.trans (But.of_below (hb.mono hB.size))⟩
      · rw [mSk_end (.inr HC.out), mSk_false]; omega
      · rw [List.drop_of_length_le (by simp; omega)]
        exact HF.out
theorem skip_any (g : Nat) (s : PZ) (w : World) (h : PB w g s) (hp : s.p ≤ s.src.size) (hs : s.src.size ≤ 4194304) :
    Calls Tryz.prog 76 #[.pointer (some ⟨g, 0, none⟩)] w fun e w' => e = .returned (.tuple #[]) ∧ PB w' g { s with p := s.p + skipN false ((tl s.src).drop s.p) } ∧ But g w.heap.size w w' := by
  go_enter Tryz.func76, Tryz.ntmps76
  change Code.wp Tryz.prog _ (SkQ w g s (s.p + skipN false ((tl s.src).drop s.p))) _ _
  apply on_enter
  change Code.wp Tryz.prog _ (viaL (On Tryz.prog (scopeB Tryz.f76) _) _) _ _
  refine wp_seq (wp_label (show Exit.then _ _ .normal _ _ from ?_))
  have hJ : JSk w g s (s.p + skipN false ((tl s.src).drop s.p)) (mSk false (tl s.src) s.p) 0 ⟨#[.pointer (some ⟨g, 0, none⟩), undef, undef, undef, undef, undef, undef, undef, undef, undef, undef, undef, undef, undef, undef, undef, undef, undef, undef, undef, undef, undef, undef, undef, undef, undef, undef, undef, undef, undef, undef, undef, undef, undef], []⟩ w := ⟨⟨_, _, _, _, _, _, _, _, _, _, _, _, _, _, _, _, _, _, _, _, _, _, _, _, _, _, _, _, _, _, _, _, _, rfl⟩, false, s.p, rfl, rfl, hp, rfl, h, But.refl _ _ _⟩
  obtain ⟨rest, hf, hr⟩ := skip_step w g s _ hs _ _ _ _ hJ
  have hc : rest = restQ (scopeB Tryz.f76) 0 := by
    have : findLabel (scopeB Tryz.f76) 0 = some (.seq .skip (restQ (scopeB Tryz.f76) 0)) := rfl
    rw [this] at hf
    injection hf with hf
    injection hf with _ hf
    exact hf.symm
  subst hc
  exact Code.wp_mono (viaL_mono fun l' a' w' ⟨m, _, hm⟩ => on_all (JSk w g s _) (skip_step w g s _ hs) m l' a' w' hm) hr
end Go.Proofs.YtonbfcpbgkpbaaaGreatDoor
end
section
/- What a list of bytes in memory is, and that it stays so while new memory is made. -/
namespace Go.Proofs.YtonbfcpbgkpbaaaGreatDoor.Oc
set_option maxRecDepth 100000
open Go.RowKit
/-- The slice that begins at 'a' holds the bytes l. -/
def BS (w : World) (a : Option Addr) (l : List UInt8) : Prop :=
  l = [] ∨ ∃ b off, a = some ⟨b, off, none⟩ ∧ ∀ j, j < l.length → w.cell? ⟨b, off + j, none⟩ = some (.int .u8 ((l.getD j 0).toNat : Int))
theorem BS.below {w w' : World} {a : Option Addr} {l : List UInt8} (h : BS w a l) (hb : Below w.heap.size w w') : BS w' a l := by
  rcases h with h | ⟨b, off, rfl, hc⟩
  · exact .inl h
  · refine .inr ⟨b, off, rfl, fun j hj => ?_⟩
    have h1 := hc j hj
    rw [hb.cell (World.block_lt_of_cell? w _ h1)]
    exact h1
theorem BS.nil (w : World) (a : Option Addr) : BS w a [] := .inl rfl
theorem BS.take {w : World} {a : Option Addr} {l : List UInt8} (h : BS w a l) (n : Nat) : BS w a (l.take n) := by
  rcases h with rfl | ⟨b, off, rfl, hc⟩
  · exact .inl (by simp)
  · refine .inr ⟨b, off, rfl, fun j hj => ?_⟩
    have hj' : j < l.length := by simp at hj; omega
    have hjn : j < n := by simp at hj; omega
    rw [hc j hj']
    simp [List.getD, hjn]
/-- A list's cells. -/
def cellsOf (l : List UInt8) : List Value := l.map fun c => .int .u8 (c.toNat : Int)
theorem cellsOf_get (l : List UInt8) (j : Nat) (h : j < l.length) : (cellsOf l)[j]? = some (.int .u8 ((l.getD j 0).toNat : Int)) := by
  simp [cellsOf, List.getD, List.getElem?_eq_getElem h]
theorem BS.new (w : World) (l : List UInt8) (t : TypeId) : BS (w.alloc (.cells (cellsOf l).toArray t)) (some ⟨w.heap.size, 0, none⟩) l := by
  refine .inr ⟨_, _, rfl, fun j hj => ?_⟩
  rw [Nat.zero_add, World.cell?_alloc_at _ _ _ _ rfl]
  simpa using cellsOf_get l j hj
/-- The same of a constant text's bytes, which bear the run-time's mark behind them. -/
theorem BS.marked (w : World) (l : List UInt8) (t : TypeId) (fr : Nat × Nat) : BS (w.alloc (.cells (cellsOf l).toArray t fr)) (some ⟨w.heap.size, 0, none⟩) l := by
  refine .inr ⟨_, _, rfl, fun j hj => ?_⟩
  rw [Nat.zero_add, World.cell?_alloc_mark]
  simpa using cellsOf_get l j hj
/-- A slice of bytes that came in, as the frame of a statement's proof opens it. -/
def IsRow (k : IntKind) (w : World) (a : Option Addr) (len cap : Nat) (zs : List Int) : Prop :=
  (a = none ∧ len = 0 ∧ cap = 0 ∧ zs = []) ∨
  ∃ x, a = some x ∧ len ≤ cap ∧ cap ≤ maxLen ∧ zs.length = cap ∧ (∀ i, i < zs.length → w.cell? (x.add i) = some (.int k (zs.getD i 0))) ∧ ∀ n ∈ zs, (Lit.int k n).wf = true
theorem IsRow.view {w : World} {a : Option Addr} {len cap : Nat} {zs : List Int} (h : IsRow .u8 w a len cap zs) : ∃ l : List UInt8, len = l.length ∧ l.length ≤ cap ∧ cap ≤ 9223372036854775807 ∧ BS w a l := by
  rcases h with ⟨rfl, rfl, rfl, rfl⟩ | ⟨x, rfl, hl, hm, hz, hc, hwf⟩
  · exact ⟨[], rfl, by simp, by omega, .inl rfl⟩
  · unfold maxLen at hm
    refine ⟨(zs.take len).map fun z => UInt8.ofNat z.toNat, by simp; omega, by simp; omega, hm, ?_⟩
    by_cases h0 : len = 0
    · subst h0; exact .inl (by simp)
    · obtain ⟨b, off, rfl, hcell⟩ := Go.ints_at hc (by omega)
      refine .inr ⟨b, off, rfl, fun j hj => ?_⟩
      have hj' : j < len := by simp at hj; omega
      have hjz : j < zs.length := by omega
      rw [hcell j hjz]
      have hb := hwf (zs.getD j 0) (by simp [List.getD, List.getElem?_eq_getElem hjz])
      have hb' : 0 ≤ zs.getD j 0 ∧ zs.getD j 0 ≤ 255 := by simpa [Lit.wf, IntKind.min, IntKind.max, IntKind.signed, IntKind.bits] using hb
      have e : (((zs.take len).map fun z => UInt8.ofNat z.toNat).getD j 0).toNat = (zs.getD j 0).toNat := by
        simp only [List.getD, List.getElem?_map, List.getElem?_take, if_pos hj', List.getElem?_eq_getElem hjz, Option.map_some, Option.getD_some] at hb' ⊢
        rw [UInt8.toNat_ofNat']
        omega
      rw [e]
      congr 2
      omega
end Go.Proofs.YtonbfcpbgkpbaaaGreatDoor.Oc
end
section
/- Bytes in memory that a call itself made. -/
namespace Go.Proofs.YtonbfcpbgkpbaaaGreatDoor.Oc
set_option maxRecDepth 100000
open Go.RowKit
open Go.Joins
/-- A block of bytes that the call itself made. -/
def Own (w : World) (g : Nat) (L : List Value) : Prop := w.heap[g]? = some (.cells L.toArray 5 (0, 0))
theorem Own.below {w w' : World} {g : Nat} {L : List Value} {B : Nat} (h : Own w g L) (hb : Below B w w') (hg : g < B) : Own w' g L := by
  unfold Own; rw [hb.block g hg]; exact h
theorem Own.lt {w : World} {g : Nat} {L : List Value} (h : Own w g L) : g < w.heap.size := (Array.getElem?_eq_some_iff.1 h).1
theorem Own.cell {w : World} {g : Nat} {L : List Value} (h : Own w g L) (j : Nat) : w.cell? ⟨g, j, none⟩ = L[j]? := by
  rw [cell_of_block h]; simp
theorem Own.free {w : World} {g : Nat} {L : List Value} (h : Own w g L) (j : Nat) : w.frozen? ⟨g, j, none⟩ = false := unfrozen_of_block h j
theorem Own.set {w : World} {g : Nat} {L : List Value} (h : Own w g L) (j : Nat) (v : Value) : Own (w.setCell ⟨g, j, none⟩ v) g (L.set j v) := by
  have := block_setCell h (i := j) v
  unfold Own; rw [this]; simp
theorem Own.bs {w : World} {g : Nat} {l r : List UInt8} (h : Own w g (cellsOf (l ++ r))) : BS w (some ⟨g, 0, none⟩) l := by
  refine .inr ⟨_, _, rfl, fun j hj => ?_⟩
  rw [Nat.zero_add, h.cell, cellsOf_get _ j (by simp; omega)]
  simp [List.getD, List.getElem?_append_left hj]
theorem cellsOf_length (l : List UInt8) : (cellsOf l).length = l.length := by simp [cellsOf]
theorem cellsOf_append (l r : List UInt8) : cellsOf (l ++ r) = cellsOf l ++ cellsOf r := by simp [cellsOf]
theorem cellsOf_one (l : List UInt8) : ∀ v ∈ cellsOf l, v.oneCell' = true := by
  intro v hv; simp [cellsOf] at hv; obtain ⟨c, _, rfl⟩ := hv; rfl
theorem cellsOf_set (l : List UInt8) (j : Nat) (c : UInt8) : (cellsOf l).set j (.int .u8 (c.toNat : Int)) = cellsOf (l.set j c) := by
  simp [cellsOf, List.map_set]
theorem info5 : (Tryz.prog.info? 5).map (fun i => (i.zero, i.size, i.bytes)) = some (some (.int .u8 0), 1, 1) := by kernel_rfl
theorem size5 : (Tryz.prog.info? 5).map (·.size) = some 1 := by kernel_rfl
end Go.Proofs.YtonbfcpbgkpbaaaGreatDoor.Oc
end
section
/- append, its run handed to the operation. -/
namespace Go.Proofs.YtonbfcpbgkpbaaaGreatDoor
open Go.RowKit
open Go.Joins
theorem wpList_append_run {P : Program} {w : World} {ops : Array Oper} {rest : List Oper} {o : Oper} {a : Act} {Q : Exit → Act → World → Prop} (hgd : o.guard = none) (s x : Operand) (t tx : TypeId)
    (ho : o.op = .call { callee := .builtin .append, args := #[s, x], argTypes := #[t, tx] }) (v y : Value) (hs : a.eval s = v) (hx : a.eval x = y) (v' : Value) (w' : World)
    (hr : (Builtin.append_ #[t, tx] o.type #[v, y]).run P w = .ok v' w') (h : wpList P ops Q rest (a.put o.dst v') w') : wpList P ops Q (o :: rest) a w := by
  refine wpList_plain hgd fun K hK => ?_
  unfold Oper.wp execOp
  simp only [ho, resolve, invoke, builtin, Sem.run_bind, Sem.run_pure, Result.andThen_ok, List.map_toArray, List.map_cons, List.map_nil, hs, hx, hr]
  exact hK _ _ h
theorem cell_add (b off j : Nat) : (⟨b, off, none⟩ : Addr).add j = ⟨b, off + j, none⟩ := Go.WideShapes.add_plain b off j
end Go.Proofs.YtonbfcpbgkpbaaaGreatDoor
end
section
/- Appending bytes to bytes: what a run leaves. -/
namespace Go.Proofs.YtonbfcpbgkpbaaaGreatDoor.Oc
set_option maxRecDepth 100000
open Go.RowKit
open Go.Joins
/-- The value v owns the bytes l, in memory from block 'base' on. -/
def OwnS (w : World) (base : Nat) (v : Value) (l : List UInt8) : Prop := w.ownsRow base 5 1 v l.length (cellsOf l)
theorem OwnS.below {w w' : World} {base : Nat} {v : Value} {l : List UInt8} {B : Nat} (h : OwnS w base v l) (hb : Below B w w') (hB : w.heap.size ≤ B) : OwnS w' base v l := by
  refine ⟨h.1, ?_⟩
  rcases h.2 with h0 | ⟨g, cap, cur, hv, hg, hh, r⟩
  · exact .inl h0
  · refine .inr ⟨g, cap, cur, hv, hg, ?_, r⟩
    rw [hb.block g (Nat.lt_of_lt_of_le (Array.getElem?_eq_some_iff.1 hh).1 hB)]
    exact hh
theorem OwnS.form {w : World} {base : Nat} {v : Value} {l : List UInt8} (h : OwnS w base v l) (hl : 0 < l.length) :
    ∃ g cap, v = .slice (some ⟨g, 0, none⟩) l.length cap ∧ base ≤ g ∧ g < w.heap.size ∧ l.length ≤ cap ∧ cap ≤ 9223372036854775807 ∧ BS w (some ⟨g, 0, none⟩) l := by
  rcases h.2 with ⟨_, h0⟩ | ⟨g, cap, cur, hv, hg, hh, hn, hm, _, ht⟩
  · omega
  · refine ⟨g, cap, hv, hg, (Array.getElem?_eq_some_iff.1 hh).1, hn, by simpa [maxLen] using hm, .inr ⟨g, 0, rfl, fun j hj => ?_⟩⟩
    subst hv
    rw [Nat.zero_add, World.ownsRow.cellAt h j (by omega)]
    exact cellsOf_get l j hj
theorem BS.cells {w : World} {x : Addr} {l : List UInt8} (h : BS w (some x) l) : ∀ j u, (cellsOf l)[j]? = some u → w.cell? (x.add j) = some u := by
  intro j u hu
  rcases h with rfl | ⟨b, off, hx, hc⟩
  · simp [cellsOf] at hu
  · obtain rfl := Option.some.inj hx
    have hj : j < l.length := by
      rcases Nat.lt_or_ge j l.length with h | h
      · exact h
      · rw [List.getElem?_eq_none (by rw [cellsOf_length]; exact h)] at hu; cases hu
    rw [cellsOf_get l j hj] at hu
    rw [cell_add, hc j hj]; exact hu
/-- Onto what is owned: bytes. -/
theorem run_own_bytes (W : World) (base : Nat) (v : Value) (l r : List UInt8) (a : Option Addr) (cap : Nat) (hown : OwnS W base v l) (h : BS W a r) (hnil : a = none → cap = 0) (hb : base ≤ W.heap.size)
    (hsz : l.length + r.length ≤ 140737488355328) :
    ∃ v' w', (Builtin.append_ #[50, 50] 50 #[v, .slice a r.length cap]).run Tryz.prog W = .ok v' w' ∧ OwnS w' base v' (l ++ r) ∧ Below base W w' := by
  obtain ⟨i0, hi, hz0, hz1, hz2⟩ := info_parts info5
  cases a with
  | none =>
    have hr : r = [] := by
      rcases h with h | ⟨b, off, h, _⟩
      · exact h
      · cases h
    subst hr
    rw [hnil rfl]
    exact ⟨v, W, run_append_owned_none (P := Tryz.prog) W base 50 50 5 i0 1 Tryz.underlying50 hi v _ _ hown, by rw [List.append_nil]; exact hown, Below.refl _ _⟩
  | some x =>
    obtain ⟨v', w', h1, h2, h3, _⟩ := run_append_own (P := Tryz.prog) W base 50 50 5 i0 (.int .u8 0) 1 1 Tryz.underlying50 hi hz0 hz1 hz2 rfl (by decide) v l.length (cellsOf l) hown x r.length cap (cellsOf r) (by rw [cellsOf_length, Nat.mul_one]) h.cells (cellsOf_one r) (by unfold maxLen; omega) (by omega) hb
    refine ⟨v', w', h1, ?_, (Below.refl base W).grown h3 hb (fun k hk => (hown.lt k hk).1)⟩
    unfold OwnS
    rw [List.length_append, cellsOf_append]
    exact h2
/-- Onto what is owned: a text. -/
theorem run_own_text (W : World) (base : Nat) (v : Value) (l : List UInt8) (s : ByteArray) (hown : OwnS W base v l) (hb : base ≤ W.heap.size) (hsz : l.length + s.size ≤ 140737488355328) :
    ∃ v' w', (Builtin.append_ #[50, 9] 50 #[v, .string s]).run Tryz.prog W = .ok v' w' ∧ OwnS w' base v' (l ++ s.data.toList) ∧ Below base W w' := by
  obtain ⟨i0, hi, hz0, hz1, hz2⟩ := info_parts info5
  obtain ⟨v', w', h1, h2, h3, _⟩ := Lib.run_append_own_string (P := Tryz.prog) W base 50 9 50 5 i0 Tryz.underlying50 Tryz.underlying9 hi hz0 hz1 hz2 v l.length (cellsOf l) hown s (by unfold maxLen; omega) (by omega) hb
  refine ⟨v', w', h1, ?_, (Below.refl base W).grown h3 hb (fun k hk => (hown.lt k hk).1)⟩
  unfold OwnS
  rw [List.length_append, cellsOf_append, show s.data.toList.length = s.size from Array.length_toList]
  exact h2
/-- Onto a slice that has no room: a new row. -/
theorem run_full_bytes (W : World) (a : Option Addr) (l r : List UInt8) (x : Addr) (cap : Nat) (hl : BS W a l) (h : BS W (some x) r) (hr : 0 < r.length) (hsz : l.length + r.length ≤ 140737488355328) :
    ∃ v' w', (Builtin.append_ #[50, 50] 50 #[.slice a l.length l.length, .slice (some x) r.length cap]).run Tryz.prog W = .ok v' w' ∧ OwnS w' W.heap.size v' (l ++ r) ∧ Below W.heap.size W w' := by
  obtain ⟨i0, hi, hz0, hz1, hz2⟩ := info_parts info5
  cases a with
  | none =>
    have hl0 : l = [] := by
      rcases hl with h | ⟨b, off, h, _⟩
      · exact h
      · cases h
    subst hl0
    exact run_own_bytes W W.heap.size (.slice none 0 0) [] r (some x) cap (World.ownsRow_nil W _ 5 1) h (fun e => by cases e) (Nat.le_refl _) hsz
  | some b =>
    obtain ⟨v', w', h1, h2, h3⟩ := run_append_arg_grows (P := Tryz.prog) W 50 50 5 i0 (.int .u8 0) 1 1 Tryz.underlying50 hi hz0 hz1 hz2 rfl (by decide) b l.length l.length (cellsOf l) (by rw [cellsOf_length, Nat.mul_one]) hl.cells x r.length cap (cellsOf r) (by rw [cellsOf_length, Nat.mul_one]) h.cells (by omega) (by unfold maxLen; omega) (by omega)
    refine ⟨v', w', h1, ?_, (Below.refl _ W).grown h3 (Nat.le_refl _) (fun k hk => by cases hk)⟩
    unfold OwnS
    rw [List.length_append, cellsOf_append]
    exact h2
/-- A number's four bytes. -/
def be4 (n : Nat) : List UInt8 := [UInt8.ofNat (n / 16777216), UInt8.ofNat (n / 65536), UInt8.ofNat (n / 256), UInt8.ofNat n]
theorem be4_cells (n : Nat) (h : n < 4294967296) : (cellsOf (be4 n)).toArray = #[.int .u8 ((n : Int) / 16777216), .int .u8 ((n : Int) / 65536 % 256), .int .u8 ((n : Int) / 256 % 256), .int .u8 ((n : Int) % 256)] := by
  simp only [cellsOf, be4, List.map_cons, List.map_nil, UInt8.toNat_ofNat']
  have e0 : ((n / 16777216 % 2 ^ 8 : Nat) : Int) = (n : Int) / 16777216 := by omega
  have e1 : ((n / 65536 % 2 ^ 8 : Nat) : Int) = (n : Int) / 65536 % 256 := by omega
  have e2 : ((n / 256 % 2 ^ 8 : Nat) : Int) = (n : Int) / 256 % 256 := by omega
  have e3 : ((n % 2 ^ 8 : Nat) : Int) = (n : Int) % 256 := by omega
  rw [e0, e1, e2, e3]
end Go.Proofs.YtonbfcpbgkpbaaaGreatDoor.Oc
end
section
/- Texts of bytes. -/
namespace Go.Proofs.YtonbfcpbgkpbaaaGreatDoor
open Go.RowKit
/-- A text of these bytes. -/
def textOf (l : List UInt8) : ByteArray := ⟨l.toArray⟩
theorem text_bytes {P : Program} (src e dst : TypeId) (hs : P.underlying src = some (.slice e)) (he : P.underlying e = some (.int .u8)) (hd : P.underlying dst = some .string)
    (b off cap : Nat) (l : List UInt8) (w : World) (hc : ∀ j, j < l.length → w.cell? ⟨b, off + j, none⟩ = some (.int .u8 ((l.getD j 0).toNat : Int))) :
    (convert src dst (.slice (some ⟨b, off, none⟩) l.length cap)).run P w = .ok (.string (textOf l)) w := by
  have h := run_convert_bytes_arg (P := P) w src e hs he b off l.length cap (l.map fun c => (c.toNat : Int)) (by simp) (fun j hj => by
    rw [hc j hj]; simp [List.getD, List.getElem?_eq_getElem hj]) dst hd
  rw [h]
  congr 2
  simp [strOfNums, textOf, List.map_map]
  apply List.ext_getElem
  · simp
  · intro j h1 h2; simp
theorem text_zero {P : Program} (src e dst : TypeId) (hs : P.underlying src = some (.slice e)) (he : P.underlying e = some (.int .u8)) (hd : P.underlying dst = some .string)
    (a : Option Addr) (cap : Nat) (w : World) : (convert src dst (.slice a 0 cap)).run P w = .ok (.string (textOf [])) w := by
  cases a with
  | none => exact run_convert_bytes_nil (P := P) w src e hs he 0 cap dst hd
  | some x =>
    have hl : (loadCells x 0).run P w = .ok #[] w := by rfl
    rw [run_convert_bytes_string w src dst e _ 0 cap hs he hd, run_bytesToString w x 0 cap [] (by simpa using hl)]
    rfl
end Go.Proofs.YtonbfcpbgkpbaaaGreatDoor
end
section
/- recipe's scanner.word: what stands at its labels. -/
namespace Go.Proofs.YtonbfcpbgkpbaaaGreatDoor
open Go.RowKit Go.Sort Go.Joins
set_option linter.unusedVariables false
set_option linter.unusedSimpArgs false
set_option maxRecDepth 100000
def scopeQ (f : Func) : Code := match f.body with
  | some (.seq _ (.seq _ (.scope c))) => c
  | some (.seq _ (.scope c)) => c
  | _ => .skip
theorem OwnS.but {w w' : World} {base g B : Nat} {v : Value} {l : List UInt8} (h : Oc.OwnS w base v l) (hb : But g B w w') (hB : w.heap.size ≤ B) (hg : g < base) : Oc.OwnS w' base v l := by
  refine ⟨h.1, ?_⟩
  rcases h.2 with h0 | ⟨b, cap, cur, hv, hbb, hh, r⟩
  · exact .inl h0
  · refine .inr ⟨b, cap, cur, hv, hbb, ?_, r⟩
    rw [hb.2.2.2.2 b (Nat.lt_of_lt_of_le (Array.getElem?_eq_some_iff.1 hh).1 hB) (by omega)]
    exact hh
theorem OwnS.slice {w : World} {base : Nat} {v : Value} {l : List UInt8} (h : Oc.OwnS w base v l) : ∃ a cap, v = .slice a l.length cap ∧ Oc.BS w a l := by
  rcases Nat.eq_zero_or_pos l.length with h0 | h0
  · have hl := List.length_eq_zero_iff.1 h0
    subst hl
    rcases h.2 with ⟨hv, -⟩ | ⟨b, cap, cur, hv, r⟩
    · exact ⟨none, 0, hv, .inl rfl⟩
    · exact ⟨_, _, hv, .inl rfl⟩
  · obtain ⟨b, cap, hv, -, -, -, -, hb⟩ := h.form h0
    exact ⟨_, _, hv, hb⟩
theorem text_of {w : World} {base : Nat} {v : Value} {l : List UInt8} (h : Oc.OwnS w base v l) : (convert 50 9 v).run Tryz.prog w = .ok (.string (textOf l)) w := by
  obtain ⟨a, cap, rfl, hb⟩ := OwnS.slice h
  rcases hb with rfl | ⟨b, off, rfl, hc⟩
  · exact text_zero 50 5 9 Tryz.underlying50 Tryz.underlying5 Tryz.underlying9 a cap w
  · exact text_bytes 50 5 9 Tryz.underlying50 Tryz.underlying5 Tryz.underlying9 b off cap l w hc
abbrev Blk0 (w : World) (z : Nat) (k a : Int) (s : ByteArray) : Prop := w.heap[z]? = some (.cells #[.int .i64 k, .int .i64 a, .string s] 92 (0, 0))
def WordPost (w : World) (g : Nat) (s : PZ) (R : Nat × Nat × List UInt8) (e : Ending) (w' : World) : Prop :=
  ∃ p, e = .returned (.agg #[.int .i64 (R.1 : Nat), .int .i64 (s.p : Nat), .string (textOf (wordT R))]) ∧ (R.1 = 4 → p = s.p + 1 + R.2.1) ∧ p ≤ s.src.size ∧ PB w' g { s with p := p } ∧ But g w.heap.size w w'
abbrev WoQ (w : World) (g : Nat) (s : PZ) (R : Nat × Nat × List UInt8) : Exit → Act → World → Prop := bodyPost Tryz.prog Tryz.f78 (WordPost w g s R)
def FWo (g z from_ : Nat) (h : UInt8) (v : Value) (c : Int) (a : Act) : Prop := ∃ t1 t7 t8 t9 t10 t11 t12 t13 t14 t15 t16 t17 t18 t19 t20 t21 t22 t23 t24 t25 t26 t27 t28 t29 t30 t31 t32 t33 t34 t35 t36 t37 t38 t39 t40 t41 t42 t43 t44 t45 t46 t47 t48 t49 t50 t51 t52 t53 t54 t55 t56 t57 t58 t59 t60 t61 t62 t63 t64 t65 t66 t67 t68 t69 t70 t71 t72 t73 t74, a = ⟨#[.pointer (some ⟨g, 0, none⟩), t1, .pointer (some ⟨z, 0, none⟩), .int .i64 (from_ : Nat), .int .i64 (h.toNat : Int), v, .int .i64 c, t7, t8, t9, t10, t11, t12, t13, t14, t15, t16, t17, t18, t19, t20, t21, t22, t23, t24, t25, t26, t27, t28, t29, t30, t31, t32, t33, t34, t35, t36, t37, t38, t39, t40, t41, t42, t43, t44, t45, t46, t47, t48, t49, t50, t51, t52, t53, t54, t55, t56, t57, t58, t59, t60, t61, t62, t63, t64, t65, t66, t67, t68, t69, t70, t71, t72, t73, t74], []⟩
/-- What stands at a label of a word. -/
structure Wst (w : World) (g : Nat) (s : PZ) (k : Nat) (acc : List UInt8) (v : Value) (wr : World) : Prop where
  hk : k ≤ s.src.size
  pb : PB wr g { s with p := k }
  but : But g w.heap.size w wr
  z : Blk0 wr w.heap.size 0 0 ⟨#[]⟩
  own : Oc.OwnS wr (w.heap.size + 1) v acc
  le : acc.length ≤ k
  hg : g < w.heap.size
def stOf (lb : Nat) : Nat := if lb = 1 then 0 else if lb = 0 then 1 else 2
def JWo (w : World) (g : Nat) (s : PZ) (R : Nat × Nat × List UInt8) (n lb : Nat) (a : Act) (wr : World) : Prop :=
  ∃ (k : Nat) (h : UInt8) (acc : List UInt8) (v : Value) (c : Int), FWo g w.heap.size s.p h v c a ∧ Wst w g s k acc v wr ∧
    ((lb = 2 ∧ n = 0 ∧ R.1 = (if c = -1 then 7 else 6)) ∨
     ((lb = 0 ∨ lb = 1 ∨ lb = 3 ∧ lowB h = true) ∧ n = s.src.size - k + 1 ∧ ∃ m, s.p + 1 + m = k ∧ R = ((wordW (stOf lb) h ((tl s.src).drop k)).1, m + (wordW (stOf lb) h ((tl s.src).drop k)).2.1, acc ++ (wordW (stOf lb) h ((tl s.src).drop k)).2.2)))
theorem Oc.OwnS.nil (w : World) (base : Nat) : Oc.OwnS w base (.slice none 0 0) [] := World.ownsRow_nil w base 5 1
theorem own_byte (W : World) (c : UInt8) : Oc.BS (W.alloc (.cells #[.int .u8 (c.toNat : Int)] 5)) (some ⟨W.heap.size, 0, none⟩) [c] := Oc.BS.new W [c] 5
/-- Behind a byte that is laid behind what is told. -/
theorem Wst.push {w : World} {g : Nat} {s : PZ} {k : Nat} {acc : List UInt8} {v : Value} {wr : World} (h : Wst w g s k acc v wr) (c : UInt8) (hs : s.src.size ≤ 4194304) (hk1 : acc.length + 1 ≤ k) :
    ∃ v' w', (Builtin.append_ #[50, 50] 50 #[v, .slice (some ⟨wr.heap.size, 0, none⟩) 1 1]).run Tryz.prog (wr.alloc (.cells #[.int .u8 (c.toNat : Int)] 5)) = .ok v' w' ∧ Wst w g s k (acc ++ [c]) v' w' := by
  have hbx : Below wr.heap.size wr (wr.alloc (.cells #[.int .u8 (c.toNat : Int)] 5)) := box_below wr _
  have hsz := h.but.size
  have hzl : w.heap.size < wr.heap.size := (Array.getElem?_eq_some_iff.1 h.z).1
  obtain ⟨v', w', h1, h2, h3⟩ := Oc.run_own_bytes (wr.alloc (.cells #[.int .u8 (c.toNat : Int)] 5)) (w.heap.size + 1) v acc [c] _ 1 (h.own.below hbx (Nat.le_refl _)) (own_byte wr c) (by simp) (by simp; omega) (by have := h.le; have := h.hk; simp; omega)
  have hB : Below (w.heap.size + 1) wr w' := (hbx.mono (by omega)).trans h3
  have hg : g < w.heap.size + 1 := by have := h.hg; omega
  refine ⟨v', w', h1, h.hk, h.pb.below hB hg, h.but.trans (But.of_below (hB.mono (by omega))), (hB.block _ (by omega)).trans h.z, h2, by simp; omega, h.hg⟩
theorem tok_store {w : World} {z : Nat} {k a : Int} {s : ByteArray} (h : Blk0 w z k a s) (k' a' : Int) (s' : ByteArray) : Blk0 (((w.setCell ⟨z, 0, none⟩ (.int .i64 k')).setCell ⟨z, 1, none⟩ (.int .i64 a')).setCell ⟨z, 2, none⟩ (.string s')) z k' a' s' :=
  block_setCell (i := 2) (block_setCell (i := 1) (block_setCell (i := 0) h (.int .i64 k')) (.int .i64 a')) (.string s')
theorem But.three {g B : Nat} {w w' : World} (h : But g B w w') {z : Nat} (hz : B ≤ z) (u0 u1 u2 : Value) : But g B w (((w'.setCell ⟨z, 0, none⟩ u0).setCell ⟨z, 1, none⟩ u1).setCell ⟨z, 2, none⟩ u2) :=
  ((h.above (p := ⟨z, 0, none⟩) hz u0).above (p := ⟨z, 1, none⟩) hz u1).above (p := ⟨z, 2, none⟩) hz u2
theorem PB.three {w : World} {g z : Nat} {s : PZ} (h : PB w g s) (hz : g ≠ z) (u0 u1 u2 : Value) : PB (((w.setCell ⟨z, 0, none⟩ u0).setCell ⟨z, 1, none⟩ u1).setCell ⟨z, 2, none⟩ u2) g s := ((h.other hz u0).other hz u1).other hz u2
/-- Behind a byte that is read. -/
theorem Wst.read {w : World} {g : Nat} {s : PZ} {k : Nat} {acc : List UInt8} {v : Value} {wr w1 : World} (h : Wst w g s k acc v wr) (hp : PB w1 g { s with p := nextP (tl s.src) k }) (hb : But g wr.heap.size wr w1) : Wst w g s (nextP (tl s.src) k) acc v w1 := by
  have hsz := h.but.size
  have hzl : w.heap.size < wr.heap.size := (Array.getElem?_eq_some_iff.1 h.z).1
  have hn : k ≤ nextP (tl s.src) k ∧ nextP (tl s.src) k ≤ s.src.size := by
    unfold nextP
    have := h.hk
    have := tl_len s.src
    split <;> omega
  have := h.hg
  have := h.le
  exact ⟨hn.2, hp, h.but.trans (hb.mono hsz), (hb.2.2.2.2 _ hzl (by omega)).trans h.z, OwnS.but h.own hb (Nat.le_refl _) (by omega), by omega, h.hg⟩
set_option maxHeartbeats 4000000 in
/-- The label behind which a word is told to be none. -/
theorem word_wrong (w : World) (g : Nat) (s : PZ) (R : Nat × Nat × List UInt8) (hs : s.src.size ≤ 4194304) (L : Nat → Act → World → Prop) (k : Nat) (h : UInt8) (acc : List UInt8) (v : Value) (c : Int) (a : Act) (wr : World)
    (hF : FWo g w.heap.size s.p h v c a) (hW : Wst w g s k acc v wr) (hR : R.1 = (if c = -1 then 7 else 6)) :
    (restQ (scopeQ Tryz.f78) 2).wp Tryz.prog (viaL L (WoQ w g s R)) a wr := by
  obtain ⟨t1, t7, t8, t9, t10, t11, t12, t13, t14, t15, t16, t17, t18, t19, t20, t21, t22, t23, t24, t25, t26, t27, t28, t29, t30, t31, t32, t33, t34, t35, t36, t37, t38, t39, t40, t41, t42, t43, t44, t45, t46, t47, t48, t49, t50, t51, t52, t53, t54, t55, t56, t57, t58, t59, t60, t61, t62, t63, t64, t65, t66, t67, t68, t69, t70, t71, t72, t73, t74, rfl⟩ := hF
  have hz := hW.z
  have hP := hW.pb
  obtain ⟨z, hzz⟩ : ∃ z, z = w.heap.size := ⟨_, rfl⟩
  have hgz : g ≠ z := by have := hW.hg; omega
  have hzb : w.heap.size ≤ z := by omega
  rw [← hzz] at hz ⊢
  have HB := Lib.hid hW.but
  have HK := hW.hk
  have x0 := cell_of_block hz 0
  have x1 := cell_of_block hz 1
  have x2 := cell_of_block hz 2
  have f0 := fun j => unfrozen_of_block hz j
  have HZB := Lib.hid hzb
  clear hW hzz hzb
  by_cases hc : c = -1
  · rw [if_pos hc] at hR
    have hd : (c == -1) = true := by simp [hc]
    have HR := Lib.hid hR
    have HWT : Hid (wordT R = []) := Lib.hid (by unfold wordT; rw [hR]; rfl)
    have HZ3 := Lib.hid (tok_store hz 7 (s.p : Nat) ⟨#[]⟩)
    have HP3 := Lib.hid (hP.three hgz (.int .i64 7) (.int .i64 (s.p : Nat)) (.string ⟨#[]⟩))
    have HB3 := Lib.hid (HB.out.three HZB.out (.int .i64 7) (.int .i64 (s.p : Nat)) (.string ⟨#[]⟩))
    clear hc hR hz hP
    change Code.wp _ (Code.seq _ _) _ _ _
    go_wp2_with fail
    rw [viaL_ret]
    obtain ⟨WF, hWF⟩ : ∃ WF, WF = (((wr.setCell ⟨z, 0, none⟩ (.int .i64 7)).setCell ⟨z, 1, none⟩ (.int .i64 (s.p : Nat))).setCell ⟨z, 2, none⟩ (.string ⟨#[]⟩)) := ⟨_, rfl⟩
    rw [← hWF] at HZ3 HP3 HB3 ⊢
    have y0 := cell_of_block HZ3.out 0
    have y1 := cell_of_block HZ3.out 1
    have y2 := cell_of_block HZ3.out 2
    exact bodyPost_ret (v := .agg #[.int .i64 7, .int .i64 (s.p : Nat), .string ⟨#[]⟩]) (by simp [results, Tryz.results78, go_sem, y0, y1, y2]) rfl ⟨k, (by rw [HR.out, HWT.out]; rfl), (fun e => by rw [HR.out] at e; cases e), HK, HP3.out, HB3.out⟩
  · rw [if_neg hc] at hR
    have hd : (c == -1) = false := by simpa using hc
    have HR := Lib.hid hR
    have HWT : Hid (wordT R = []) := Lib.hid (by unfold wordT; rw [hR]; rfl)
    have HZ3 := Lib.hid (tok_store hz 6 (s.p : Nat) ⟨#[]⟩)
    have HP3 := Lib.hid (hP.three hgz (.int .i64 6) (.int .i64 (s.p : Nat)) (.string ⟨#[]⟩))
    have HB3 := Lib.hid (HB.out.three HZB.out (.int .i64 6) (.int .i64 (s.p : Nat)) (.string ⟨#[]⟩))
    clear hc hR hz hP
    change Code.wp _ (Code.seq _ _) _ _ _
    go_wp2_with fail
    rw [viaL_ret]
    obtain ⟨WF, hWF⟩ : ∃ WF, WF = (((wr.setCell ⟨z, 0, none⟩ (.int .i64 6)).setCell ⟨z, 1, none⟩ (.int .i64 (s.p : Nat))).setCell ⟨z, 2, none⟩ (.string ⟨#[]⟩)) := ⟨_, rfl⟩
    rw [← hWF] at HZ3 HP3 HB3 ⊢
    have y0 := cell_of_block HZ3.out 0
    have y1 := cell_of_block HZ3.out 1
    have y2 := cell_of_block HZ3.out 2
    exact bodyPost_ret (v := .agg #[.int .i64 6, .int .i64 (s.p : Nat), .string ⟨#[]⟩]) (by simp [results, Tryz.results78, go_sem, y0, y1, y2]) rfl ⟨k, (by rw [HR.out, HWT.out]; rfl), (fun e => by rw [HR.out] at e; cases e), HK, HP3.out, HB3.out⟩
theorem wordW_nil (st : Nat) (h : UInt8) : wordW st h [] = (7, 0, []) := by
  cases st with
  | zero => rfl
  | succ n => cases n <;> rfl
theorem w0_q {h c : UInt8} {l : List UInt8} (e : c.toNat = 34) : wordW 0 h (c :: l) = (4, 1, []) := by rw [wordW, if_pos e]
theorem w0_b {h c : UInt8} {l : List UInt8} (e : c.toNat = 92) : wordW 0 h (c :: l) = wStep (wordW 1 h l) := by rw [wordW, if_neg (by omega), if_pos e]
theorem w0_s {h c : UInt8} {l : List UInt8} (e : ¬ c.toNat = 34) (e2 : ¬ c.toNat = 92) (e3 : shownB c = true) : wordW 0 h (c :: l) = wCons c (wordW 0 h l) := by rw [wordW, if_neg e, if_neg e2, if_pos e3]
theorem w0_n {h c : UInt8} {l : List UInt8} (e : ¬ c.toNat = 34) (e2 : ¬ c.toNat = 92) (e3 : shownB c = false) : wordW 0 h (c :: l) = (6, 0, []) := by rw [wordW, if_neg e, if_neg e2, if_neg (by rw [e3]; decide)]
theorem w1_q {h c : UInt8} {l : List UInt8} (e : c.toNat = 34 ∨ c.toNat = 92) : wordW 1 h (c :: l) = wCons c (wordW 0 h l) := by rw [wordW, if_pos e]
theorem w1_d {h c : UInt8} {l : List UInt8} (e : ¬ (c.toNat = 34 ∨ c.toNat = 92)) (e2 : lowB c = true) : wordW 1 h (c :: l) = wStep (wordW 2 c l) := by rw [wordW, if_neg e, if_pos e2]
theorem w1_n {h c : UInt8} {l : List UInt8} (e : ¬ (c.toNat = 34 ∨ c.toNat = 92)) (e2 : lowB c = false) : wordW 1 h (c :: l) = (6, 0, []) := by rw [wordW, if_neg e, if_neg (by rw [e2]; decide)]
theorem w2_d {h c : UInt8} {l : List UInt8} (e : lowB c = true) (e2 : shownB (byteV h c) = false) : wordW 2 h (c :: l) = wCons (byteV h c) (wordW 0 h l) := by rw [wordW, if_pos ⟨e, e2⟩]
theorem w2_n {h c : UInt8} {l : List UInt8} (e : ¬ (lowB c = true ∧ shownB (byteV h c) = false)) : wordW 2 h (c :: l) = (6, 0, []) := by rw [wordW, if_neg e]
theorem nextP_in {l : List UInt8} {k : Nat} (h : k < l.length) : nextP l k = k + 1 := if_pos h
theorem nextP_end {l : List UInt8} {k : Nat} (h : ¬ k < l.length) : nextP l k = k := if_neg h
theorem shown_eq (c : UInt8) : (decide (32 ≤ (c.toNat : Int)) && decide ((c.toNat : Int) ≤ 126)) = shownB c := by
  unfold shownB
  rw [Bool.eq_iff_iff]; simp; omega
end Go.Proofs.YtonbfcpbgkpbaaaGreatDoor
end
