/- recipe's scanner.next: what stands at its labels; its end. -/
import Derived.Test.YtonbfcpbgkpbaaaQWord
import Derived.BigCall
import Derived.Test.YtonbfcpbgkpbaaaURegion
import Derived.BigGuard
namespace Go.Proofs.Ytonbfcpbgkpbaaa
open Go.RowKit Go.Sort Go.Joins
set_option linter.unusedVariables false
set_option linter.unusedSimpArgs false
set_option maxRecDepth 100000
abbrev R3 := Nat × Nat × List UInt8
def NextPost (w : World) (g : Nat) (s : PZ) (q : Nat) (R : R3) (e : Ending) (w' : World) : Prop :=
  ∃ p, e = .returned (.agg #[.int .i64 (R.1 : Nat), .int .i64 (q : Nat), .string (textOf R.2.2)]) ∧ (R.1 ≤ 5 → p = q + R.2.1) ∧ p ≤ s.src.size ∧ PB w' g { s with p := p } ∧ But g w.heap.size w w'
abbrev NeQ (w : World) (g : Nat) (s : PZ) (q : Nat) (R : R3) : Exit → Act → World → Prop := bodyPost Try.prog Try.f41 (NextPost w g s q R)
def FNe (g z q kd : Nat) (c : Int) (a : Act) : Prop := a.defers = [] ∧ a.tmps.toList.length = 135 ∧ a.tmps.toList[0]? = some (.pointer (some ⟨g, 0, none⟩)) ∧ a.tmps.toList[2]? = some (.pointer (some ⟨z, 0, none⟩)) ∧ a.tmps.toList[3]? = some (.int .i64 (q : Nat)) ∧ a.tmps.toList[4]? = some (.int .i64 (kd : Nat)) ∧ a.tmps.toList[5]? = some (.int .i64 c)
theorem frame_list (l : List Value) (n : Nat) (h : l.length = n) : l = (List.range n).map (fun i => l.getD i undef) := by
  apply List.ext_getElem
  · simp [h]
  · intro i h1 h2
    simp [List.getD, h1]
theorem FNe.open {g z q kd : Nat} {c : Int} {a : Act} (h : FNe g z q kd c a) : ∃ t : Nat → Value, a = ⟨#[.pointer (some ⟨g, 0, none⟩), t 1, .pointer (some ⟨z, 0, none⟩), .int .i64 (q : Nat), .int .i64 (kd : Nat), .int .i64 c, t 6, t 7, t 8, t 9, t 10, t 11, t 12, t 13, t 14, t 15, t 16, t 17, t 18, t 19, t 20, t 21, t 22, t 23, t 24, t 25, t 26, t 27, t 28, t 29, t 30, t 31, t 32, t 33, t 34, t 35, t 36, t 37, t 38, t 39, t 40, t 41, t 42, t 43, t 44, t 45, t 46, t 47, t 48, t 49, t 50, t 51, t 52, t 53, t 54, t 55, t 56, t 57, t 58, t 59, t 60, t 61, t 62, t 63, t 64, t 65, t 66, t 67, t 68, t 69, t 70, t 71, t 72, t 73, t 74, t 75, t 76, t 77, t 78, t 79, t 80, t 81, t 82, t 83, t 84, t 85, t 86, t 87, t 88, t 89, t 90, t 91, t 92, t 93, t 94, t 95, t 96, t 97, t 98, t 99, t 100, t 101, t 102, t 103, t 104, t 105, t 106, t 107, t 108, t 109, t 110, t 111, t 112, t 113, t 114, t 115, t 116, t 117, t 118, t 119, t 120, t 121, t 122, t 123, t 124, t 125, t 126, t 127, t 128, t 129, t 130, t 131, t 132, t 133, t 134], []⟩ := by
  obtain ⟨hd, hl, h0, h2, h3, h4, h5⟩ := h
  obtain ⟨⟨l⟩, d⟩ := a
  simp only at hd hl h0 h2 h3 h4 h5
  subst hd
  have hf := frame_list l 135 hl
  have g0 : l.getD 0 undef = .pointer (some ⟨g, 0, none⟩) := by simp [List.getD, h0]
  have g2 : l.getD 2 undef = .pointer (some ⟨z, 0, none⟩) := by simp [List.getD, h2]
  have g3 : l.getD 3 undef = .int .i64 (q : Nat) := by simp [List.getD, h3]
  have g4 : l.getD 4 undef = .int .i64 (kd : Nat) := by simp [List.getD, h4]
  have g5 : l.getD 5 undef = .int .i64 c := by simp [List.getD, h5]
  obtain ⟨t, ht⟩ : ∃ t : Nat → Value, t = fun i => l.getD i undef := ⟨_, rfl⟩
  rw [← ht] at hf
  have e : l = [t 0, t 1, t 2, t 3, t 4, t 5, t 6, t 7, t 8, t 9, t 10, t 11, t 12, t 13, t 14, t 15, t 16, t 17, t 18, t 19, t 20, t 21, t 22, t 23, t 24, t 25, t 26, t 27, t 28, t 29, t 30, t 31, t 32, t 33, t 34, t 35, t 36, t 37, t 38, t 39, t 40, t 41, t 42, t 43, t 44, t 45, t 46, t 47, t 48, t 49, t 50, t 51, t 52, t 53, t 54, t 55, t 56, t 57, t 58, t 59, t 60, t 61, t 62, t 63, t 64, t 65, t 66, t 67, t 68, t 69, t 70, t 71, t 72, t 73, t 74, t 75, t 76, t 77, t 78, t 79, t 80, t 81, t 82, t 83, t 84, t 85, t 86, t 87, t 88, t 89, t 90, t 91, t 92, t 93, t 94, t 95, t 96, t 97, t 98, t 99, t 100, t 101, t 102, t 103, t 104, t 105, t 106, t 107, t 108, t 109, t 110, t 111, t 112, t 113, t 114, t 115, t 116, t 117, t 118, t 119, t 120, t 121, t 122, t 123, t 124, t 125, t 126, t 127, t 128, t 129, t 130, t 131, t 132, t 133, t 134] := hf.trans rfl
  have k0 : t 0 = .pointer (some ⟨g, 0, none⟩) := by rw [ht]; exact g0
  have k2 : t 2 = .pointer (some ⟨z, 0, none⟩) := by rw [ht]; exact g2
  have k3 : t 3 = .int .i64 (q : Nat) := by rw [ht]; exact g3
  have k4 : t 4 = .int .i64 (kd : Nat) := by rw [ht]; exact g4
  have k5 : t 5 = .int .i64 c := by rw [ht]; exact g5
  refine ⟨t, ?_⟩
  rw [e, k0, k2, k3, k4, k5]
/-- What stands at a label of next. -/
structure Nst (w : World) (g : Nat) (s : PZ) (q k : Nat) (wr : World) : Prop where
  hq : q ≤ k
  hk : k ≤ s.src.size
  pb : PB wr g { s with p := k }
  but : But g w.heap.size w wr
  z : Blk0 wr w.heap.size 0 0 ⟨#[]⟩
  hg : g < w.heap.size
theorem Nst.adv {w : World} {g : Nat} {s : PZ} {q k : Nat} {wr w1 : World} (h : Nst w g s q k wr) (hb : Below wr.heap.size wr w1) : Nst w g s q k w1 := by
  have hzl : w.heap.size < wr.heap.size := (Array.getElem?_eq_some_iff.1 h.z).1
  exact ⟨h.hq, h.hk, h.pb.below hb h.pb.lt, h.but.trans (But.of_below (hb.mono h.but.size)), (hb.block _ hzl).trans h.z, h.hg⟩
theorem Nst.set {w : World} {g : Nat} {s : PZ} {q k : Nat} {wr : World} (h : Nst w g s q k wr) (k' : Nat) (h1 : k ≤ k') (h2 : k' ≤ s.src.size) : Nst w g s q k' (wr.setCell ⟨g, 1, none⟩ (.int .i64 (k' : Nat))) := by
  have := h.hg
  exact ⟨Nat.le_trans h.hq h1, h2, h.pb.setP k', h.but.setCell _ _, (Below.heap_setCell _ _ _ _ (show w.heap.size ≠ g by omega)).trans h.z, h.hg⟩
theorem text_cut (s : ByteArray) (a b : Nat) : s.extract a b = textOf (((tl s).drop a).take (b - a)) := by
  apply ByteArray.ext
  apply Array.ext'
  simp [textOf, List.take_drop]
theorem tl_cut (s : ByteArray) (a b : Nat) : tl (s.extract a b) = ((tl s).drop a).take (b - a) := by
  simp [tl, List.take_drop]
def digB (R : R3) (l : List UInt8) (src : List UInt8) (q k : Nat) : Prop := ∃ D : List UInt8, (∀ c ∈ D, capB c = true) ∧ R = bounded (if runeDB D = true then 3 else 6) (2 + D.length) l ∧ D = (src.drop (q + 2)).take (k - (q + 2)) ++ (src.drop k).takeWhile capB
def JNe (w : World) (g : Nat) (s : PZ) (q : Nat) (R : R3) (n lb : Nat) (a : Act) (wr : World) : Prop :=
  ∃ (k kd : Nat) (c : Int), FNe g w.heap.size q kd c a ∧ Nst w g s q k wr ∧
    ((lb = 4 ∧ n = 0 ∧ R = (kd, k - q, ((tl s.src).drop q).take (k - q))) ∨
     (lb = 5 ∧ n = 1 ∧ R = bounded kd (k - q) ((tl s.src).drop q)) ∨
     (lb = 1 ∧ n = 2 ∧ R = bounded 2 (k - q) ((tl s.src).drop q)) ∨
     (lb = 0 ∧ n = s.src.size - k + 3 ∧ R = bounded 1 (k - q + (((tl s.src).drop k).takeWhile smallB).length) ((tl s.src).drop q)) ∨
     (lb = 2 ∧ n = s.src.size - k + 3 ∧ k - q ≤ 10 ∧ R = bounded 2 (k - q + tenDigits (10 - (k - q)) ((tl s.src).drop k)) ((tl s.src).drop q)) ∨
     (lb = 3 ∧ n = s.src.size - k + 3 ∧ q + 2 ≤ k ∧ kd = 6 ∧ digB R ((tl s.src).drop q) (tl s.src) q k))
set_option maxHeartbeats 8000000 in
theorem next_l4 (w : World) (g : Nat) (s : PZ) (q : Nat) (R : R3) (hs : s.src.size ≤ 4194304) (L : Nat → Act → World → Prop) (k kd : Nat) (c : Int) (a : Act) (wr : World)
    (hF : FNe g w.heap.size q kd c a) (hW : Nst w g s q k wr) (hR : R = (kd, k - q, ((tl s.src).drop q).take (k - q))) :
    (restQ (scopeQ Try.f41) 4).wp Try.prog (viaL L (NeQ w g s q R)) a wr := by
  obtain ⟨t, rfl⟩ := hF.open
  have hP := hW.pb
  have c0 := hP.c0
  have c1 := hP.c1
  simp only at c0 c1
  obtain ⟨z, hzz⟩ : ∃ z, z = w.heap.size := ⟨_, rfl⟩
  rw [← hzz]
  have HZZ := Lib.hid hzz
  have HW := Lib.hid hW
  have HR := Lib.hid hR
  have hq := hW.hq
  have hk := hW.hk
  clear hzz hW hR hP
  change Code.wp _ (Code.seq _ _) _ _ _
  go_wp2_with fail
  refine wp_region_quiet_tail (C := fun w' => ∃ n, w' = wr.drewN n) 13 (by kernel_rfl) (by kernel_rfl) ⟨1, rfl⟩ ?_
  simp only [List.take_succ_cons, List.take_zero, List.drop_succ_cons, List.drop_zero]
  repeat (go_big_quiet_step (fail))
  refine wpQuiet_nil ?_
  intro _ hw'
  obtain ⟨nq, hw''⟩ := hw'
  subst hw''
  have hd : Below wr.heap.size wr (wr.drewN nq) := below_drewN (Below.refl _ _) nq
  have HW1 := Lib.hid (HW.out.adv hd)
  obtain ⟨w1, hw1⟩ : ∃ w1, w1 = wr.drewN nq := ⟨_, rfl⟩
  rw [← hw1] at HW1 ⊢
  have hz1 := HW1.out.z
  rw [← HZZ.out] at hz1
  have x0 := cell_of_block hz1 0
  have x1 := cell_of_block hz1 1
  have x2 := cell_of_block hz1 2
  have f0 := fun j => unfrozen_of_block hz1 j
  have hgz : g ≠ z := by have := HW1.out.hg; have := HZZ.out; omega
  have HZ3 := Lib.hid (tok_store hz1 (kd : Nat) (q : Nat) (s.src.extract q k))
  have HP3 := Lib.hid (HW1.out.pb.three hgz (.int .i64 (kd : Nat)) (.int .i64 (q : Nat)) (.string (s.src.extract q k)))
  have HB3 := Lib.hid (HW1.out.but.three (z := z) (by have := HZZ.out; omega) (.int .i64 (kd : Nat)) (.int .i64 (q : Nat)) (.string (s.src.extract q k)))
  clear hz1 hw1 hd c0 c1
  go_wp2_with fail
  rw [viaL_ret]
  obtain ⟨WF, hWF⟩ : ∃ WF, WF = (((w1.setCell ⟨z, 0, none⟩ (.int .i64 (kd : Nat))).setCell ⟨z, 1, none⟩ (.int .i64 (q : Nat))).setCell ⟨z, 2, none⟩ (.string (s.src.extract q k))) := ⟨_, rfl⟩
  rw [← hWF] at HZ3 HP3 HB3 ⊢
  have y0 := cell_of_block HZ3.out 0
  have y1 := cell_of_block HZ3.out 1
  have y2 := cell_of_block HZ3.out 2
  exact bodyPost_ret (v := .agg #[.int .i64 (kd : Nat), .int .i64 (q : Nat), .string (s.src.extract q k)]) (by simp [results, Try.results41, go_sem, y0, y1, y2]) rfl ⟨k, (by rw [HR.out, text_cut]), (fun _ => by rw [HR.out]; show k = q + (k - q); omega), hk, HP3.out, HB3.out⟩
theorem onI_here (l : List UInt8) (k : Nat) : onI (hereI l k) = headOn (l.drop k) := by
  by_cases h : k < l.length
  · rw [hereI_at h, drop_cons l k h]
    unfold onI headOn onB smallB digitB
    rw [Bool.eq_iff_iff]
    simp only [Bool.or_eq_true, Bool.and_eq_true, decide_eq_true_eq, beq_iff_eq]
    omega
  · rw [hereI_end (by omega), List.drop_of_length_le (by omega)]
    rfl
set_option maxHeartbeats 8000000 in
theorem next_l5 (w : World) (g : Nat) (s : PZ) (q : Nat) (R : R3) (hs : s.src.size ≤ 4194304) (L : Nat → Act → World → Prop) (k kd : Nat) (c : Int) (a : Act) (wr : World)
    (hF : FNe g w.heap.size q kd c a) (hW : Nst w g s q k wr) (hR : R = bounded kd (k - q) ((tl s.src).drop q)) :
    (restQ (scopeQ Try.f41) 5).wp Try.prog (viaL L (NeQ w g s q R)) a wr := by
  have H0 := here_any g { s with p := k } wr hW.pb hW.hk (by simp only; omega)
  simp only at H0
  have H1 := fun wx => goesOn_any (hereI (tl s.src) k) wx
  rw [onI_here] at H1
  have hq := hW.hq
  unfold bounded at hR
  rw [List.drop_drop, show q + (k - q) = k by omega] at hR
  have hge := hereI_ge (tl s.src) k
  generalize hereI (tl s.src) k = ch at *
  obtain ⟨t, rfl⟩ := hF.open
  obtain ⟨z, hzz⟩ : ∃ z, z = w.heap.size := ⟨_, rfl⟩
  rw [← hzz]
  have HZZ := Lib.hid hzz
  have HW := Lib.hid hW
  clear hzz hW hF
  change Code.wp _ (Code.seq _ _) _ _ _
  cases hb : headOn ((tl s.src).drop k) with
  | true =>
    rw [hb] at hR H1
    have HR := Lib.hid hR
    clear hR hb
    go_wp2_with fail
    refine H0.mono ?_
    rintro e w1 ⟨rfl, hb⟩
    have HW1 := Lib.hid (HW.out.adv hb)
    clear H0 hb
    go_wp2_with fail
    refine (H1 _).mono ?_
    rintro e w2 ⟨rfl, he⟩
    obtain rfl := he.symm
    clear H1
    go_wp2_with fail
    refine wp_label (show Exit.then _ _ .normal _ _ from ?_)
    rename_i KK aK
    have hzE := HZZ.out
    subst hzE
    exact aK _ _ (next_l4 w g s q R hs _ k 6 c _ w1 ⟨rfl, rfl, rfl, rfl, rfl, rfl, rfl⟩ HW1.out (by rw [HR.out]; rfl))
  | false =>
    rw [hb] at hR H1
    have HR := Lib.hid hR
    clear hR hb
    go_wp2_with fail
    refine H0.mono ?_
    rintro e w1 ⟨rfl, hb⟩
    have HW1 := Lib.hid (HW.out.adv hb)
    clear H0 hb
    go_wp2_with fail
    refine (H1 _).mono ?_
    rintro e w2 ⟨rfl, he⟩
    obtain rfl := he.symm
    clear H1
    go_wp2_with fail
    refine wp_label (show Exit.then _ _ .normal _ _ from ?_)
    rename_i KK aK
    have hzE := HZZ.out
    subst hzE
    exact aK _ _ (next_l4 w g s q R hs _ k kd c _ w1 ⟨rfl, rfl, rfl, rfl, rfl, rfl, rfl⟩ HW1.out (by rw [HR.out]; rfl))
end Go.Proofs.Ytonbfcpbgkpbaaa
