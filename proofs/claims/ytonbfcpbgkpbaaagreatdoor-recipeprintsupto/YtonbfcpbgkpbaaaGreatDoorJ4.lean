import Derived.Test.YtonbfcpbgkpbaaaGreatDoorJ3
import Derived.BigCall
import Derived.BigGuard
section
/- recipe's scanner.next: what stands at its labels; its end. -/
namespace Go.Proofs.YtonbfcpbgkpbaaaGreatDoor
open Go.RowKit Go.Sort Go.Joins
set_option linter.unusedVariables false
set_option linter.unusedSimpArgs false
set_option maxRecDepth 100000
abbrev R3 := Nat × Nat × List UInt8
def NextPost (w : World) (g : Nat) (s : PZ) (q : Nat) (R : R3) (e : Ending) (w' : World) : Prop :=
  ∃ p, e = .returned (.agg #[.int .i64 (R.1 : Nat), .int .i64 (q : Nat), .string (textOf R.2.2)]) ∧ (R.1 ≤ 5 → p = q + R.2.1) ∧ p ≤ s.src.size ∧ PB w' g { s with p := p } ∧ But g w.heap.size w w'
abbrev NeQ (w : World) (g : Nat) (s : PZ) (q : Nat) (R : R3) : Exit → Act → World → Prop := bodyPost Tryz.prog Tryz.f54 (NextPost w g s q R)
def FNe (g z q kd : Nat) (c : Int) (a : Act) : Prop := a.defers = [] ∧ a.tmps.toList.length = 135 ∧ a.tmps.toList[0]? = some (.pointer (some ⟨g, 0, none⟩)) ∧ a.tmps.toList[2]? = some (.pointer (some ⟨z, 0, none⟩)) ∧ a.tmps.toList[3]? = some (.int .i64 (q : Nat)) ∧ a.tmps.toList[4]? = some (.int .i64 (kd : Nat)) ∧ a.tmps.toList[5]? = some (.int .i64 c)
theorem frame_list (l : List Value) (n : Nat) (h : l.length = n) : l = (List.range n).map (fun i => l.getD i undef) := by
  apply List.ext_getElem
  · simp [h]
  · intro i h1 h2
    simp [List.getD, h1]
theorem FNe.open {g z q kd : Nat} {c : Int} {a : Act} (h : FNe g z q kd c a) : ∃ t : Nat → Value, a = ⟨#[.pointer (some ⟨g, 0, none⟩), t 1, .pointer (some ⟨z, 0, none⟩), .int .i64 (q : Nat), .int .i64 (kd : Nat), .int .i64 c, t 6, t 7, t 8, t 9, t 10, t 11, t 12, t 13, t 14, t 15, t 16, t 17, t 18, t 19, t 20, t 21, t 22, t 23, t 24, t 25, t 26, t 27, t 28, t 29, t 30, t 31, t 32, t 33, t 34, t 35, t 36, t 37, t 38, t 39, t 40, t 41, t 42, t 43, t 44, t 45, t 46, t 47, t 48, t 49, t 50, t 51, t 52, t 53, t 54, t 55, t 56, t 57, t 58, t 59, t 60, t 61, t 62, t 63, t 64, t 65, t 66, t 67, t 68, t 69, t 70, t 71, t 72, t 73, t 74, t 75, t 76, t 77, t 78, t 79, t 80, t 81, t 82, t 83, t 84, t 85, t 86, t 87, t 88, t 89, t 90, t 91, t 92, t 93, t 94, t 95, t 96, t 97, t 98, t 99, t 100, t 101, t 102, t 103, t 104, t 105, t 106, t 107, t 108, t 109, t 110, t 111, t 112, t 113, t 114, t 115, t 116, t 117, t 118, t 119, t 120, t 121, t 122, t 123, t 124, t 125, t 126, t 127, t 128, t 129, t 130, t 131, t 132, t 133, t 134], []⟩ := by
  obtain ⟨hd, hl, h0, h2, h3, h4, h5⟩ := h
  obtain ⟨⟨l⟩, d⟩ := a
  simp only at hd hl h0 h2 h3 h4 h5
  subst hd
  have hf := frame_list l 135 hl
  have g0 : l.getD 0 undef = .pointer (some ⟨g, 0, none⟩) := by simp [List.getD, h0]
  have g2 : l.getD 2 undef = .pointer (some ⟨z, 0, none⟩) := by simp [List.getD, h2]
  have g3 : l.getD 3 undef = .int .i64 (q : Nat) := by simp [List.getD, h3]
  have g4 : l.getD 4 undef = .int .i64 (kd : Nat) := by simp [List.getD, h4]
  have g5 : l.getD 5 undef = .int .i64 c := by simp [List.getD, h5]
  obtain ⟨t, ht⟩ : ∃ t : Nat → Value, t = fun i => l.getD i undef := ⟨_, rfl⟩
  rw [← ht] at hf
  have e : l = [t 0, t 1, t 2, t 3, t 4, t 5, t 6, t 7, t 8, t 9, t 10, t 11, t 12, t 13, t 14, t 15, t 16, t 17, t 18, t 19, t 20, t 21, t 22, t 23, t 24, t 25, t 26, t 27, t 28, t 29, t 30, t 31, t 32, t 33, t 34, t 35, t 36, t 37, t 38, t 39, t 40, t 41, t 42, t 43, t 44, t 45, t 46, t 47, t 48, t 49, t 50, t 51, t 52, t 53, t 54, t 55, t 56, t 57, t 58, t 59, t 60, t 61, t 62, t 63, t 64, t 65, t 66, t 67, t 68, t 69, t 70, t 71, t 72, t 73, t 74, t 75, t 76, t 77, t 78, t 79, t 80, t 81, t 82, t 83, t 84, t 85, t 86, t 87, t 88, t 89, t 90, t 91, t 92, t 93, t 94, t 95, t 96, t 97, t 98, t 99, t 100, t 101, t 102, t 103, t 104, t 105, t 106, t 107, t 108, t 109, t 110, t 111, t 112, t 113, t 114, t 115, t 116, t 117, t 118, t 119, t 120, t 121, t 122, t 123, t 124, t 125, t 126, t 127, t 128, t 129, t 130, t 131, t 132, t 133, t 134] := hf.trans rfl
  have k0 : t 0 = .pointer (some ⟨g, 0, none⟩) := by rw [ht]; exact g0
  have k2 : t 2 = .pointer (some ⟨z, 0, none⟩) := by rw [ht]; exact g2
  have k3 : t 3 = .int .i64 (q : Nat) := by rw [ht]; exact g3
  have k4 : t 4 = .int .i64 (kd : Nat) := by rw [ht]; exact g4
  have k5 : t 5 = .int .i64 c := by rw [ht]; exact g5
  refine ⟨t, ?_⟩
  rw [e, k0, k2, k3, k4, k5]
/-- What stands at a label of next. -/
structure Nst (w : World) (g : Nat) (s : PZ) (q k : Nat) (wr : World) : Prop where
  hq : q ≤ k
  hk : k ≤ s.src.size
  pb : PB wr g { s with p := k }
  but : But g w.heap.size w wr
  z : Blk0 wr w.heap.size 0 0 ⟨#[]⟩
  hg : g < w.heap.size
theorem Nst.adv {w : World} {g : Nat} {s : PZ} {q k : Nat} {wr w1 : World} (h : Nst w g s q k wr) (hb : Below wr.heap.size wr w1) : Nst w g s q k w1 := by
  have hzl : w.heap.size < wr.heap.size := (Array.getElem?_eq_some_iff.1 h.z).1
  exact ⟨h.hq, h.hk, h.pb.below hb h.pb.lt, h.but.trans (But.of_below (hb.mono h.but.size)), (hb.block _ hzl).trans h.z, h.hg⟩
theorem Nst.set {w : World} {g : Nat} {s : PZ} {q k : Nat} {wr : World} (h : Nst w g s q k wr) (k' : Nat) (h1 : k ≤ k') (h2 : k' ≤ s.src.size) : Nst w g s q k' (wr.setCell ⟨g, 1, none⟩ (.int .i64 (k' : Nat))) := by
  have := h.hg
  exact ⟨Nat.le_trans h.hq h1, h2, h.pb.setP k', h.but.setCell _ _, (Below.heap_setCell _ _ _ _ (show w.heap.size ≠ g by omega)).trans h.z, h.hg⟩
theorem text_cut (s : ByteArray) (a b : Nat) : s.extract a b = textOf (((tl s).drop a).take (b - a)) := by
  apply ByteArray.ext
  apply Array.ext'
  simp [textOf, List.take_drop]
theorem tl_cut (s : ByteArray) (a b : Nat) : tl (s.extract a b) = ((tl s).drop a).take (b - a) := by
  simp [tl, List.take_drop]
def digB (R : R3) (l : List UInt8) (src : List UInt8) (q k : Nat) : Prop := ∃ D : List UInt8, (∀ c ∈ D, capB c = true) ∧ R = bounded (if runeDB D = true then 3 else 6) (2 + D.length) l ∧ D = (src.drop (q + 2)).take (k - (q + 2)) ++ (src.drop k).takeWhile capB
def JNe (w : World) (g : Nat) (s : PZ) (q : Nat) (R : R3) (n lb : Nat) (a : Act) (wr : World) : Prop :=
  ∃ (k kd : Nat) (c : Int), FNe g w.heap.size q kd c a ∧ Nst w g s q k wr ∧
    ((lb = 4 ∧ n = 0 ∧ R = (kd, k - q, ((tl s.src).drop q).take (k - q))) ∨
     (lb = 5 ∧ n = 1 ∧ R = bounded kd (k - q) ((tl s.src).drop q)) ∨
     (lb = 1 ∧ n = 2 ∧ R = bounded 2 (k - q) ((tl s.src).drop q)) ∨
     (lb = 0 ∧ n = s.src.size - k + 3 ∧ R = bounded 1 (k - q + (((tl s.src).drop k).takeWhile smallB).length) ((tl s.src).drop q)) ∨
     (lb = 2 ∧ n = s.src.size - k + 3 ∧ k - q ≤ 10 ∧ R = bounded 2 (k - q + tenDigits (10 - (k - q)) ((tl s.src).drop k)) ((tl s.src).drop q)) ∨
     (lb = 3 ∧ n = s.src.size - k + 3 ∧ q + 2 ≤ k ∧ kd = 6 ∧ digB R ((tl s.src).drop q) (tl s.src) q k))
set_option maxHeartbeats 8000000 in
theorem next_l4 (w : World) (g : Nat) (s : PZ) (q : Nat) (R : R3) (hs : s.src.size ≤ 4194304) (L : Nat → Act → World → Prop) (k kd : Nat) (c : Int) (a : Act) (wr : World)
    (hF : FNe g w.heap.size q kd c a) (hW : Nst w g s q k wr) (hR : R = (kd, k - q, ((tl s.src).drop q).take (k - q))) :
    (restQ (scopeQ Tryz.f54) 4).wp Tryz.prog (viaL L (NeQ w g s q R)) a wr := by
  obtain ⟨t, rfl⟩ := hF.open
  have hP := hW.pb
  have c0 := hP.c0
  have c1 := hP.c1
  simp only at c0 c1
  obtain ⟨z, hzz⟩ : ∃ z, z = w.heap.size := ⟨_, rfl⟩
  rw [← hzz]
  have HZZ := Lib.hid hzz
  have HW := Lib.hid hW
  have HR := Lib.hid hR
  have hq := hW.hq
  have hk := hW.hk
  clear hzz hW hR hP
  change Code.wp _ (Code.seq _ _) _ _ _
  go_wp2_with fail
  refine wp_region_quiet_tail (C := fun w' => ∃ n, w' = wr.drewN n) 13 (by kernel_rfl) (by kernel_rfl) ⟨1, rfl⟩ ?_
  simp only [List.take_succ_cons, List.take_zero, List.drop_succ_cons, List.drop_zero]
  repeat (go_big_quiet_step (fail))
  refine wpQuiet_nil ?_
  intro _ hw'
  obtain ⟨nq, hw''⟩ := hw'
  subst hw''
  have hd : Below wr.heap.size wr (wr.drewN nq) := below_drewN (Below.refl _ _) nq
  have HW1 := Lib.hid (HW.out.adv hd)
  obtain ⟨w1, hw1⟩ : ∃ w1, w1 = wr.drewN nq := ⟨_, rfl⟩
  rw [← hw1] at HW1 ⊢
  have hz1 := HW1.out.z
  rw [← HZZ.out] at hz1
  have x0 := cell_of_block hz1 0
  have x1 := cell_of_block hz1 1
  have x2 := cell_of_block hz1 2
  have f0 := fun j => unfrozen_of_block hz1 j
  have hgz : g ≠ z := by have := HW1.out.hg; have := HZZ.out; omega
  have HZ3 := Lib.hid (tok_store hz1 (kd : Nat) (q : Nat) (s.src.extract q k))
  have HP3 := Lib.hid (HW1.out.pb.three hgz (.int .i64 (kd : Nat)) (.int .i64 (q : Nat)) (.string (s.src.extract q k)))
  have HB3 := Lib.hid (HW1.out.but.three (z := z) (by have := HZZ.out; omega) (.int .i64 (kd : Nat)) (.int .i64 (q : Nat)) (.string (s.src.extract q k)))
  clear hz1 hw1 hd c0 c1
  go_wp2_with fail
  rw [viaL_ret]
  obtain ⟨WF, hWF⟩ : ∃ WF, WF = (((w1.setCell ⟨z, 0, none⟩ (.int .i64 (kd : Nat))).setCell ⟨z, 1, none⟩ (.int .i64 (q : Nat))).setCell ⟨z, 2, none⟩ (.string (s.src.extract q k))) := ⟨_, rfl⟩
  rw [← hWF] at HZ3 HP3 HB3 ⊢
  have y0 := cell_of_block HZ3.out 0
  have y1 := cell_of_block HZ3.out 1
  have y2 := cell_of_block HZ3.out 2
  exact bodyPost_ret (v := .agg #[.int .i64 (kd : Nat), .int .i64 (q : Nat), .string (s.src.extract q k)]) (by simp [results, Tryz.results54, go_sem, y0, y1, y2]) rfl ⟨k, (by rw [HR.out, text_cut]), (fun _ => by rw [HR.out]; show k = q + (k - q); omega), hk, HP3.out, HB3.out⟩
theorem onI_here (l : List UInt8) (k : Nat) : onI (hereI l k) = headOn (l.drop k) := by
  by_cases h : k < l.length
  · rw [hereI_at h, drop_cons l k h]
    unfold onI headOn onB smallB digitB
    rw [Bool.eq_iff_iff]
    simp only [Bool.or_eq_true, Bool.and_eq_true, decide_eq_true_eq, beq_iff_eq]
    omega
  · rw [hereI_end (by omega), List.drop_of_length_le (by omega)]
    rfl
set_option maxHeartbeats 8000000 in
theorem next_l5 (w : World) (g : Nat) (s : PZ) (q : Nat) (R : R3) (hs : s.src.size ≤ 4194304) (L : Nat → Act → World → Prop) (k kd : Nat) (c : Int) (a : Act) (wr : World)
    (hF : FNe g w.heap.size q kd c a) (hW : Nst w g s q k wr) (hR : R = bounded kd (k - q) ((tl s.src).drop q)) :
    (restQ (scopeQ Tryz.f54) 5).wp Tryz.prog (viaL L (NeQ w g s q R)) a wr := by
  have H0 := here_any g { s with p := k } wr hW.pb hW.hk (by simp only; omega)
  simp only at H0
  have H1 := fun wx => goesOn_any (hereI (tl s.src) k) wx
  rw [onI_here] at H1
  have hq := hW.hq
  unfold bounded at hR
  rw [List.drop_drop, show q + (k - q) = k by omega] at hR
  have hge := hereI_ge (tl s.src) k
  generalize hereI (tl s.src) k = ch at *
  obtain ⟨t, rfl⟩ := hF.open
  obtain ⟨z, hzz⟩ : ∃ z, z = w.heap.size := ⟨_, rfl⟩
  rw [← hzz]
  have HZZ := Lib.hid hzz
  have HW := Lib.hid hW
  clear hzz hW hF
  change Code.wp _ (Code.seq _ _) _ _ _
  cases hb : headOn ((tl s.src).drop k) with
  | true =>
    rw [hb] at hR H1
    have HR := Lib.hid hR
    clear hR hb
    go_wp2_with fail
    refine H0.mono ?_
    rintro e w1 ⟨rfl, hb⟩
    have HW1 := Lib.hid (HW.out.adv hb)
    clear H0 hb
    go_wp2_with fail
    refine (H1 _).mono ?_
    rintro e w2 ⟨rfl, he⟩
    obtain rfl := he.symm
    clear H1
    go_wp2_with fail
    refine wp_label (show Exit.then _ _ .normal _ _ from ?_)
    rename_i KK aK
    have hzE := HZZ.out
    subst hzE
    exact aK _ _ (next_l4 w g s q R hs _ k 6 c _ w1 ⟨rfl, rfl, rfl, rfl, rfl, rfl, rfl⟩ HW1.out (by rw [HR.out]; rfl))
  | false =>
    rw [hb] at hR H1
    have HR := Lib.hid hR
    clear hR hb
    go_wp2_with fail
    refine H0.mono ?_
    rintro e w1 ⟨rfl, hb⟩
    have HW1 := Lib.hid (HW.out.adv hb)
    clear H0 hb
    go_wp2_with fail
    refine (H1 _).mono ?_
    rintro e w2 ⟨rfl, he⟩
    obtain rfl := he.symm
    clear H1
    go_wp2_with fail
    refine wp_label (show Exit.then _ _ .normal _ _ from ?_)
    rename_i KK aK
    have hzE := HZZ.out
    subst hzE
    exact aK _ _ (next_l4 w g s q R hs _ k kd c _ w1 ⟨rfl, rfl, rfl, rfl, rfl, rfl, rfl⟩ HW1.out (by rw [HR.out]; rfl))
end Go.Proofs.YtonbfcpbgkpbaaaGreatDoor
end
section
/- recipe's scanner.next: names, numbers -/
namespace Go.Proofs.YtonbfcpbgkpbaaaGreatDoor
open Go.RowKit Go.Sort Go.Joins
set_option linter.unusedVariables false
set_option linter.unusedSimpArgs false
set_option maxRecDepth 100000
def headP (p : UInt8 → Bool) : List UInt8 → Bool
  | [] => false
  | c :: _ => p c
theorem small_here (l : List UInt8) (k : Nat) : (decide (97 ≤ hereI l k) && decide (hereI l k ≤ 122)) = headP smallB (l.drop k) := by
  by_cases h : k < l.length
  · rw [hereI_at h, drop_cons l k h]
    unfold headP smallB
    rw [Bool.eq_iff_iff]
    simp only [Bool.and_eq_true, decide_eq_true_eq]
    omega
  · rw [hereI_end (by omega), List.drop_of_length_le (by omega)]
    rfl
theorem digit_here (l : List UInt8) (k : Nat) : (decide (48 ≤ hereI l k) && decide (hereI l k ≤ 57)) = headP digitB (l.drop k) := by
  by_cases h : k < l.length
  · rw [hereI_at h, drop_cons l k h]
    unfold headP digitB
    rw [Bool.eq_iff_iff]
    simp only [Bool.and_eq_true, decide_eq_true_eq]
    omega
  · rw [hereI_end (by omega), List.drop_of_length_le (by omega)]
    rfl
theorem cap_here (l : List UInt8) (k : Nat) : oneI (hereI l k) capS = headP capB (l.drop k) := by
  by_cases h : k < l.length
  · rw [hereI_at h, drop_cons l k h, oneI_cap]
    rfl
  · rw [hereI_end (by omega), List.drop_of_length_le (by omega)]
    rfl
theorem headP_lt {p : UInt8 → Bool} {l : List UInt8} {k : Nat} (h : headP p (l.drop k) = true) : k < l.length := by
  rcases Nat.lt_or_ge k l.length with hh | hh
  · exact hh
  · rw [List.drop_of_length_le hh] at h; cases h
theorem tw_in {p : UInt8 → Bool} {l : List UInt8} {k : Nat} (h : headP p (l.drop k) = true) : ∃ c, p c = true ∧ l[k]? = some c ∧ (l.drop k).takeWhile p = c :: (l.drop (k + 1)).takeWhile p := by
  have hk := headP_lt h
  rw [drop_cons l k hk] at h ⊢
  exact ⟨l[k], h, List.getElem?_eq_getElem hk, List.takeWhile_cons_of_pos h⟩
theorem tw_out {p : UInt8 → Bool} {l : List UInt8} {k : Nat} (h : headP p (l.drop k) = false) : (l.drop k).takeWhile p = [] := by
  cases hd : l.drop k with
  | nil => rfl
  | cons c r =>
    rw [hd] at h
    exact List.takeWhile_cons_of_neg (by rw [show p c = false from h]; decide)
theorem ten_in {l : List UInt8} {k f : Nat} (h : headP digitB (l.drop k) = true) : tenDigits (f + 1) (l.drop k) = 1 + tenDigits f (l.drop (k + 1)) := by
  have hk := headP_lt h
  rw [drop_cons l k hk] at h ⊢
  rw [tenDigits, if_pos (show digitB l[k] = true from h)]
theorem ten_out {l : List UInt8} {k f : Nat} (h : headP digitB (l.drop k) = false) : tenDigits f (l.drop k) = 0 := by
  cases f with
  | zero => rfl
  | succ f =>
    cases hd : l.drop k with
    | nil => rfl
    | cons c r =>
      rw [hd] at h
      rw [tenDigits, if_neg (by rw [show digitB c = false from h]; decide)]
set_option maxHeartbeats 8000000 in
theorem next_l1 (w : World) (g : Nat) (s : PZ) (q : Nat) (R : R3) (hs : s.src.size ≤ 4194304) (n : Nat) (hn : 2 ≤ n) (k kd : Nat) (c : Int) (a : Act) (wr : World)
    (hF : FNe g w.heap.size q kd c a) (hW : Nst w g s q k wr) (hR : R = bounded 2 (k - q) ((tl s.src).drop q)) :
    (restQ (scopeQ Tryz.f54) 1).wp Tryz.prog (viaL (fun l' a' w' => ∃ m, m < n ∧ JNe w g s q R m l' a' w') (NeQ w g s q R)) a wr := by
  obtain ⟨t, rfl⟩ := hF.open
  obtain ⟨z, hzz⟩ : ∃ z, z = w.heap.size := ⟨_, rfl⟩
  rw [← hzz]
  have HZZ := Lib.hid hzz
  have HW := Lib.hid hW
  have hq := hW.hq
  have hk := hW.hk
  have HR := Lib.hid hR
  clear hzz hW hF hR
  change Code.wp _ (Code.seq _ _) _ _ _
  go_wp2_with (apply wp_goto; change ∃ m, m < _ ∧ _)
  have hzE := HZZ.out
  subst hzE
  exact ⟨1, by omega, k, 2, c, ⟨rfl, rfl, rfl, rfl, rfl, rfl, rfl⟩, HW.out, .inr (.inl ⟨rfl, rfl, HR.out⟩)⟩
set_option maxHeartbeats 8000000 in
theorem next_l0 (w : World) (g : Nat) (s : PZ) (q : Nat) (R : R3) (hs : s.src.size ≤ 4194304) (k kd : Nat) (c : Int) (a : Act) (wr : World)
    (hF : FNe g w.heap.size q kd c a) (hW : Nst w g s q k wr) (hR : R = bounded 1 (k - q + (((tl s.src).drop k).takeWhile smallB).length) ((tl s.src).drop q)) :
    (restQ (scopeQ Tryz.f54) 0).wp Tryz.prog (viaL (fun l' a' w' => ∃ m, m < s.src.size - k + 3 ∧ JNe w g s q R m l' a' w') (NeQ w g s q R)) a wr := by
  have H0 := here_any g { s with p := k } wr hW.pb hW.hk (by simp only; omega)
  simp only at H0
  have H1 := fun wx => isSmall_any (hereI (tl s.src) k) wx
  rw [small_here] at H1
  have htl := tl_len s.src
  obtain ⟨t, rfl⟩ := hF.open
  obtain ⟨z, hzz⟩ : ∃ z, z = w.heap.size := ⟨_, rfl⟩
  rw [← hzz]
  have HZZ := Lib.hid hzz
  have HW := Lib.hid hW
  have hq := hW.hq
  have hk := hW.hk
  generalize hereI (tl s.src) k = ch at *
  clear hzz hW hF
  change Code.wp _ (Code.seq _ _) _ _ _
  cases hb : headP smallB ((tl s.src).drop k) with
  | true =>
    obtain ⟨cc, -, -, htw⟩ := tw_in hb
    have hlt := headP_lt hb
    rw [htw, List.length_cons] at hR
    rw [hb] at H1
    have HR := Lib.hid hR
    clear hR hb htw
    have hk4 : k ≤ 4194304 := by omega
    go_wp2_with fail
    refine H0.mono ?_
    rintro e w1 ⟨rfl, hb⟩
    have HW1 := Lib.hid (HW.out.adv hb)
    have c1 := HW1.out.pb.c1
    have f1 := HW1.out.pb.free 1
    simp only at c1
    clear H0 hb
    go_wp2_with fail
    refine (H1 _).mono ?_
    rintro e w2 ⟨rfl, he⟩
    obtain rfl := he.symm
    clear H1
    go_wp2_with (apply wp_goto; change ∃ m, m < _ ∧ _)
    have hzE := HZZ.out
    subst hzE
    exact ⟨s.src.size - (k + 1) + 3, by omega, k + 1, kd, c, ⟨rfl, rfl, rfl, rfl, rfl, rfl, rfl⟩, HW1.out.set (k + 1) (by omega) (by omega), .inr (.inr (.inr (.inl ⟨rfl, rfl, by rw [HR.out]; congr 1; omega⟩)))⟩
  | false =>
    rw [tw_out hb, List.length_nil, Nat.add_zero] at hR
    rw [hb] at H1
    have HR := Lib.hid hR
    clear hR hb
    go_wp2_with fail
    refine H0.mono ?_
    rintro e w1 ⟨rfl, hb⟩
    have HW1 := Lib.hid (HW.out.adv hb)
    clear H0 hb
    go_wp2_with fail
    refine (H1 _).mono ?_
    rintro e w2 ⟨rfl, he⟩
    obtain rfl := he.symm
    clear H1
    go_wp2_with (apply wp_goto; change ∃ m, m < _ ∧ _)
    have hzE := HZZ.out
    subst hzE
    exact ⟨1, by omega, k, 1, c, ⟨rfl, rfl, rfl, rfl, rfl, rfl, rfl⟩, HW1.out, .inr (.inl ⟨rfl, rfl, HR.out⟩)⟩
set_option maxHeartbeats 8000000 in
theorem next_l2 (w : World) (g : Nat) (s : PZ) (q : Nat) (R : R3) (hs : s.src.size ≤ 4194304) (k kd : Nat) (c : Int) (a : Act) (wr : World)
    (hF : FNe g w.heap.size q kd c a) (hW : Nst w g s q k wr) (h10 : k - q ≤ 10) (hR : R = bounded 2 (k - q + tenDigits (10 - (k - q)) ((tl s.src).drop k)) ((tl s.src).drop q)) :
    (restQ (scopeQ Tryz.f54) 2).wp Tryz.prog (viaL (fun l' a' w' => ∃ m, m < s.src.size - k + 3 ∧ JNe w g s q R m l' a' w') (NeQ w g s q R)) a wr := by
  have H0 := here_any g { s with p := k } wr hW.pb hW.hk (by simp only; omega)
  simp only at H0
  have H1 := fun wx => isDigit_any (hereI (tl s.src) k) wx
  rw [digit_here] at H1
  have htl := tl_len s.src
  obtain ⟨t, rfl⟩ := hF.open
  obtain ⟨z, hzz⟩ : ∃ z, z = w.heap.size := ⟨_, rfl⟩
  rw [← hzz]
  have HZZ := Lib.hid hzz
  have HW := Lib.hid hW
  have hq := hW.hq
  have hk := hW.hk
  generalize hereI (tl s.src) k = ch at *
  clear hzz hW hF
  change Code.wp _ (Code.seq _ _) _ _ _
  have hk4 : k ≤ 4194304 := by omega
  cases hb : headP digitB ((tl s.src).drop k) with
  | true =>
    have hlt := headP_lt hb
    rw [hb] at H1
    by_cases h9 : k - q < 10
    · obtain ⟨f, hf⟩ : ∃ f, 10 - (k - q) = f + 1 := ⟨9 - (k - q), by omega⟩
      rw [hf, ten_in hb] at hR
      have hd : decide ((k : Int) - (q : Int) < 10) = true := decide_eq_true (by omega)
      have HR := Lib.hid hR
      have HF := Lib.hid hf
      clear hR hb hf
      go_wp2_with fail
      refine H0.mono ?_
      rintro e w1 ⟨rfl, hb⟩
      have HW1 := Lib.hid (HW.out.adv hb)
      have c1 := HW1.out.pb.c1
      have f1 := HW1.out.pb.free 1
      simp only at c1
      clear H0 hb
      go_wp2_with fail
      refine (H1 _).mono ?_
      rintro e w2 ⟨rfl, he⟩
      obtain rfl := he.symm
      clear H1
      go_wp2_with (apply wp_goto; change ∃ m, m < _ ∧ _)
      have hzE := HZZ.out
      subst hzE
      exact ⟨s.src.size - (k + 1) + 3, by omega, k + 1, kd, c, ⟨rfl, rfl, rfl, rfl, rfl, rfl, rfl⟩, HW1.out.set (k + 1) (by omega) (by omega), .inr (.inr (.inr (.inr (.inl ⟨rfl, rfl, by omega, by rw [HR.out, show 10 - (k + 1 - q) = f by have := HF.out; omega]; congr 1; omega⟩))))⟩
    · rw [show 10 - (k - q) = 0 by omega, show tenDigits 0 ((tl s.src).drop k) = 0 from rfl, Nat.add_zero] at hR
      have hd : decide ((k : Int) - (q : Int) < 10) = false := decide_eq_false (by omega)
      have HR := Lib.hid hR
      clear hR hb
      go_wp2_with fail
      refine H0.mono ?_
      rintro e w1 ⟨rfl, hb⟩
      have HW1 := Lib.hid (HW.out.adv hb)
      have c1 := HW1.out.pb.c1
      simp only at c1
      clear H0 hb
      go_wp2_with fail
      refine (H1 _).mono ?_
      rintro e w2 ⟨rfl, he⟩
      obtain rfl := he.symm
      clear H1
      go_wp2_with fail
      refine wp_label (show Exit.then _ _ .normal _ _ from ?_)
      rename_i KK aK
      have hzE := HZZ.out
      subst hzE
      exact aK _ _ (next_l1 w g s q R hs _ (by omega) k kd c _ w1 ⟨rfl, rfl, rfl, rfl, rfl, rfl, rfl⟩ HW1.out HR.out)
  | false =>
    rw [ten_out hb, Nat.add_zero] at hR
    rw [hb] at H1
    have HR := Lib.hid hR
    clear hR hb
    go_wp2_with fail
    refine H0.mono ?_
    rintro e w1 ⟨rfl, hb⟩
    have HW1 := Lib.hid (HW.out.adv hb)
    clear H0 hb
    go_wp2_with fail
    refine (H1 _).mono ?_
    rintro e w2 ⟨rfl, he⟩
    obtain rfl := he.symm
    clear H1
    go_wp2_with fail
    refine wp_label (show Exit.then _ _ .normal _ _ from ?_)
    rename_i KK aK
    have hzE := HZZ.out
    subst hzE
    exact aK _ _ (next_l1 w g s q R hs _ (by omega) k kd c _ w1 ⟨rfl, rfl, rfl, rfl, rfl, rfl, rfl⟩ HW1.out HR.out)
end Go.Proofs.YtonbfcpbgkpbaaaGreatDoor
end
section
/- recipe's scanner.next: runes -/
namespace Go.Proofs.YtonbfcpbgkpbaaaGreatDoor
open Go.RowKit Go.Sort Go.Joins
set_option linter.unusedVariables false
set_option linter.unusedSimpArgs false
set_option maxRecDepth 100000
set_option maxHeartbeats 8000000 in
theorem next_l3 (w : World) (g : Nat) (s : PZ) (q : Nat) (R : R3) (hs : s.src.size ≤ 4194304) (k : Nat) (c : Int) (a : Act) (wr : World)
    (hF : FNe g w.heap.size q 6 c a) (hW : Nst w g s q k wr) (h2 : q + 2 ≤ k) (hR : digB R ((tl s.src).drop q) (tl s.src) q k) :
    (restQ (scopeQ Tryz.f54) 3).wp Tryz.prog (viaL (fun l' a' w' => ∃ m, m < s.src.size - k + 3 ∧ JNe w g s q R m l' a' w') (NeQ w g s q R)) a wr := by
  have H0 := here_any g { s with p := k } wr hW.pb hW.hk (by simp only; omega)
  simp only at H0
  have hge := hereI_ge (tl s.src) k
  have H1 := fun wx => isOneOf_any (hereI (tl s.src) k) capS hge.1 hge.2 wx
  rw [cap_here] at H1
  have htl := tl_len s.src
  obtain ⟨D, hDc, hR, hD⟩ := hR
  obtain ⟨t, rfl⟩ := hF.open
  obtain ⟨z, hzz⟩ : ∃ z, z = w.heap.size := ⟨_, rfl⟩
  rw [← hzz]
  have HZZ := Lib.hid hzz
  have HW := Lib.hid hW
  have hq := hW.hq
  have hk := hW.hk
  generalize hereI (tl s.src) k = ch at *
  clear hzz hW hF
  change Code.wp _ (Code.seq _ _) _ _ _
  have hk4 : k ≤ 4194304 := by omega
  cases hb : headP capB ((tl s.src).drop k) with
  | true =>
    obtain ⟨cc, -, hcc, htw⟩ := tw_in hb
    have hlt := headP_lt hb
    rw [htw] at hD
    rw [hb] at H1
    have hD2 : D = ((tl s.src).drop (q + 2)).take (k + 1 - (q + 2)) ++ ((tl s.src).drop (k + 1)).takeWhile capB := by
      rw [hD, show k + 1 - (q + 2) = k - (q + 2) + 1 by omega, List.take_add_one, List.getElem?_drop, show q + 2 + (k - (q + 2)) = k by omega, hcc]
      simp
    have HR : Hid (digB R ((tl s.src).drop q) (tl s.src) q (k + 1)) := Lib.hid ⟨D, hDc, hR, hD2⟩
    clear hR hb htw hD hD2 hDc hcc
    go_wp2_with fail
    refine H0.mono ?_
    rintro e w1 ⟨rfl, hb⟩
    have HW1 := Lib.hid (HW.out.adv hb)
    have c1 := HW1.out.pb.c1
    have f1 := HW1.out.pb.free 1
    simp only at c1
    clear H0 hb
    go_wp2_with fail
    refine (H1 _).mono ?_
    rintro e w2 ⟨rfl, he⟩
    obtain rfl := he.symm
    clear H1
    go_wp2_with (apply wp_goto; change ∃ m, m < _ ∧ _)
    have hzE := HZZ.out
    subst hzE
    exact ⟨s.src.size - (k + 1) + 3, by omega, k + 1, 6, c, ⟨rfl, rfl, rfl, rfl, rfl, rfl, rfl⟩, HW1.out.set (k + 1) (by omega) (by omega), .inr (.inr (.inr (.inr (.inr ⟨rfl, rfl, by omega, rfl, HR.out⟩))))⟩
  | false =>
    rw [tw_out hb, List.append_nil] at hD
    rw [hb] at H1
    have hDl : 2 + D.length = k - q := by
      rw [hD, List.length_take, List.length_drop]
      omega
    rw [hDl] at hR
    have hex : tl (s.src.extract (q + 2) k) = D := by
      rw [hD, tl_cut]
    have H2 := fun wx => isRune_any (s.src.extract (q + 2) k) (by simp; omega) (by rw [hex]; exact hDc) wx
    rw [hex] at H2
    have HR := Lib.hid hR
    have q2 : (q : Int) + 2 ≤ (k : Int) := by omega
    clear hR hb hD hDl hex hDc
    go_wp2_with fail
    refine H0.mono ?_
    rintro e w1 ⟨rfl, hb⟩
    have HW1 := Lib.hid (HW.out.adv hb)
    have c0 := HW1.out.pb.c0
    have c1 := HW1.out.pb.c1
    simp only at c0 c1
    clear H0 hb
    go_wp2_with fail
    refine (H1 _).mono ?_
    rintro e w2 ⟨rfl, he⟩
    obtain rfl := he.symm
    clear H1
    go_wp2_with fail
    refine wp_region_quiet_tail (C := fun w' => ∃ n, w' = w1.drewN n) 11 (by kernel_rfl) (by kernel_rfl) ⟨1, rfl⟩ ?_
    simp only [List.take_succ_cons, List.take_zero, List.drop_succ_cons, List.drop_zero]
    repeat (go_big_quiet_step (fail))
    refine wpQuiet_nil ?_
    intro _ hw'
    obtain ⟨nq, hw''⟩ := hw'
    subst hw''
    have HW2 := Lib.hid (HW1.out.adv (below_drewN (Below.refl _ _) nq))
    clear c0 c1
    cases hrn : runeDB D with
    | true =>
      rw [hrn] at H2 HR
      clear hrn
      go_wp2_with fail
      refine (H2 _).mono ?_
      rintro e w3 ⟨rfl, hb3⟩
      have HW3 := Lib.hid (HW2.out.adv hb3)
      clear H2 hb3
      go_wp2_with fail
      refine wp_label (show Exit.then _ _ .normal _ _ from ?_)
      rename_i KK aK
      have hzE := HZZ.out
      subst hzE
      exact aK _ _ (next_l5 w g s q R hs _ k 3 c _ w3 ⟨rfl, rfl, rfl, rfl, rfl, rfl, rfl⟩ HW3.out (by rw [HR.out]; rfl))
    | false =>
      rw [hrn] at H2 HR
      clear hrn
      go_wp2_with fail
      refine (H2 _).mono ?_
      rintro e w3 ⟨rfl, hb3⟩
      have HW3 := Lib.hid (HW2.out.adv hb3)
      clear H2 hb3
      go_wp2_with fail
      refine wp_label (show Exit.then _ _ .normal _ _ from ?_)
      rename_i KK aK
      have hzE := HZZ.out
      subst hzE
      exact aK _ _ (next_l5 w g s q R hs _ k 6 c _ w3 ⟨rfl, rfl, rfl, rfl, rfl, rfl, rfl⟩ HW3.out (by rw [HR.out]; rfl))
theorem next_step (w : World) (g : Nat) (s : PZ) (q : Nat) (R : R3) (hs : s.src.size ≤ 4194304) (n lb : Nat) (a : Act) (wr : World) (hJ : JNe w g s q R n lb a wr) :
    ∃ rest, findLabel (scopeQ Tryz.f54) lb = some (.seq .skip rest) ∧ rest.wp Tryz.prog (viaL (fun l' a' w' => ∃ m, m < n ∧ JNe w g s q R m l' a' w') (NeQ w g s q R)) a wr := by
  obtain ⟨k, kd, c, hF, hW, hc⟩ := hJ
  rcases hc with ⟨rfl, rfl, hR⟩ | ⟨rfl, rfl, hR⟩ | ⟨rfl, rfl, hR⟩ | ⟨rfl, rfl, hR⟩ | ⟨rfl, rfl, h10, hR⟩ | ⟨rfl, rfl, h2, rfl, hR⟩
  · exact ⟨_, rfl, next_l4 w g s q R hs _ k kd c a wr hF hW hR⟩
  · exact ⟨_, rfl, next_l5 w g s q R hs _ k kd c a wr hF hW hR⟩
  · exact ⟨_, rfl, next_l1 w g s q R hs _ (Nat.le_refl _) k kd c a wr hF hW hR⟩
  · exact ⟨_, rfl, next_l0 w g s q R hs k kd c a wr hF hW hR⟩
  · exact ⟨_, rfl, next_l2 w g s q R hs k kd c a wr hF hW h10 hR⟩
  · exact ⟨_, rfl, next_l3 w g s q R hs k c a wr hF hW h2 hR⟩
end Go.Proofs.YtonbfcpbgkpbaaaGreatDoor
end
section
/- recipe's scanner.next: its contract -/
namespace Go.Proofs.YtonbfcpbgkpbaaaGreatDoor
open Go.RowKit Go.Sort Go.Joins
set_option linter.unusedVariables false
set_option linter.unusedSimpArgs false
set_option maxRecDepth 100000
theorem wordW_kind : ∀ (l : List UInt8) (st : Nat) (h : UInt8), (wordW st h l).1 = 4 ∨ (wordW st h l).1 = 6 ∨ (wordW st h l).1 = 7 := by
  intro l
  induction l with
  | nil => intro st h; rw [wordW_nil]; exact .inr (.inr rfl)
  | cons c l ih =>
    intro st h
    match st with
    | 0 =>
      unfold wordW
      split
      · exact .inl rfl
      · split
        · exact ih 1 h
        · split
          · exact ih 0 h
          · exact .inr (.inl rfl)
    | 1 =>
      unfold wordW
      split
      · exact ih 0 h
      · split
        · exact ih 2 c
        · exact .inr (.inl rfl)
    | n + 2 =>
      unfold wordW
      split
      · exact ih 0 h
      · exact .inr (.inl rfl)
theorem tok_word {c : UInt8} {l : List UInt8} (h : c.toNat = 34) : tokL (c :: l) = ((wordW 0 0 l).1, (wordW 0 0 l).2.1 + 1, wordT (wordW 0 0 l)) := by
  show (if _ then _ else _) = _
  rw [if_pos h]
theorem tok_name {c : UInt8} {l : List UInt8} (h : ¬ c.toNat = 34) (h1 : smallB c = true) : tokL (c :: l) = bounded 1 ((c :: l).takeWhile smallB).length (c :: l) := by
  show (if _ then _ else _) = _
  rw [if_neg h, if_pos h1]
theorem tok_zero {c : UInt8} {l : List UInt8} (h : ¬ c.toNat = 34) (h1 : smallB c = false) (h2 : c.toNat = 48) : tokL (c :: l) = bounded 2 1 (c :: l) := by
  show (if _ then _ else _) = _
  rw [if_neg h, if_neg (by rw [h1]; decide), if_pos h2]
theorem tok_digits {c : UInt8} {l : List UInt8} (h : ¬ c.toNat = 34) (h1 : smallB c = false) (h2 : ¬ c.toNat = 48) (h3 : digitB c = true) : tokL (c :: l) = bounded 2 (tenDigits 10 (c :: l)) (c :: l) := by
  show (if _ then _ else _) = _
  rw [if_neg h, if_neg (by rw [h1]; decide), if_neg h2, if_pos h3]
theorem tok_rune {c : UInt8} {l : List UInt8} (h : ¬ c.toNat = 34) (h1 : smallB c = false) (h2 : ¬ c.toNat = 48) (h3 : digitB c = false) (h4 : (c :: l).take 2 = [85, 43]) : tokL (c :: l) = bounded (if runeDB (((c :: l).drop 2).takeWhile capB) = true then 3 else 6) (2 + (((c :: l).drop 2).takeWhile capB).length) (c :: l) := by
  show (if _ then _ else _) = _
  rw [if_neg h, if_neg (by rw [h1]; decide), if_neg h2, if_neg (by rw [h3]; decide), if_pos h4]
theorem tok_to {c : UInt8} {l : List UInt8} (h : ¬ c.toNat = 34) (h1 : smallB c = false) (h2 : ¬ c.toNat = 48) (h3 : digitB c = false) (h4 : ¬ (c :: l).take 2 = [85, 43]) (h5 : (c :: l).take 2 = [46, 46]) : tokL (c :: l) = (5, 2, (c :: l).take 2) := by
  show (if _ then _ else _) = _
  rw [if_neg h, if_neg (by rw [h1]; decide), if_neg h2, if_neg (by rw [h3]; decide), if_neg h4, if_pos h5]
theorem tok_sign {c : UInt8} {l : List UInt8} (h : ¬ c.toNat = 34) (h1 : smallB c = false) (h2 : ¬ c.toNat = 48) (h3 : digitB c = false) (h4 : ¬ (c :: l).take 2 = [85, 43]) (h5 : ¬ (c :: l).take 2 = [46, 46]) (h6 : c.toNat = 123 ∨ c.toNat = 125 ∨ c.toNat = 43 ∨ c.toNat = 61) : tokL (c :: l) = (5, 1, (c :: l).take 1) := by
  show (if _ then _ else _) = _
  rw [if_neg h, if_neg (by rw [h1]; decide), if_neg h2, if_neg (by rw [h3]; decide), if_neg h4, if_neg h5, if_pos h6]
theorem tok_none {c : UInt8} {l : List UInt8} (h : ¬ c.toNat = 34) (h1 : smallB c = false) (h2 : ¬ c.toNat = 48) (h3 : digitB c = false) (h4 : ¬ (c :: l).take 2 = [85, 43]) (h5 : ¬ (c :: l).take 2 = [46, 46]) (h6 : ¬ (c.toNat = 123 ∨ c.toNat = 125 ∨ c.toNat = 43 ∨ c.toNat = 61)) : tokL (c :: l) = (6, 0, []) := by
  show (if _ then _ else _) = _
  rw [if_neg h, if_neg (by rw [h1]; decide), if_neg h2, if_neg (by rw [h3]; decide), if_neg h4, if_neg h5, if_neg h6]
theorem stands_iff2 (s : ByteArray) (q : Nat) (a b : UInt8) : preB (s.extract q s.size) ⟨#[a, b]⟩ = decide (((tl s).drop q).take 2 = [a, b]) := by
  have e : tl (s.extract q s.size) = (tl s).drop q := by rw [tl_cut, List.take_of_length_le (by simp)]
  rw [Bool.eq_iff_iff, preB_iff, decide_eq_true_eq, e]
  exact Iff.rfl
set_option maxHeartbeats 8000000 in
theorem next_any (g : Nat) (s : PZ) (w : World) (h : PB w g s) (hp : s.p ≤ s.src.size) (hs : s.src.size ≤ 4194304) :
    Calls Tryz.prog 54 #[.pointer (some ⟨g, 0, none⟩)] w (NextPost w g s (s.p + skipN false ((tl s.src).drop s.p)) (tokL ((tl s.src).drop (s.p + skipN false ((tl s.src).drop s.p))))) := by
  have htl := tl_len s.src
  have bx := box_below w (.cells #[.int .i64 0, .int .i64 0, .string ⟨#[]⟩] 92)
  have hX : (w.alloc (.cells #[.int .i64 0, .int .i64 0, .string ⟨#[]⟩] 92)).heap[w.heap.size]? = some (.cells #[.int .i64 0, .int .i64 0, .string ⟨#[]⟩] 92 (0, 0)) := heap_alloc_new w _
  have hP := h.below bx h.lt
  have hlt := h.lt
  obtain ⟨W, hW⟩ : ∃ W, W = w.alloc (.cells #[.int .i64 0, .int .i64 0, .string ⟨#[]⟩] 92) := ⟨_, rfl⟩
  have hsW : W.heap.size = w.heap.size + 1 := by rw [hW]; simp
  rw [← hW] at bx hX hP
  have HS := skip_any g s W hP hp hs
  obtain ⟨q, hq⟩ : ∃ q, q = s.p + skipN false ((tl s.src).drop s.p) := ⟨_, rfl⟩
  obtain ⟨R, hR⟩ : ∃ R, R = tokL ((tl s.src).drop q) := ⟨_, rfl⟩
  have hqs : q ≤ s.src.size := by
    have : ∀ (l : List UInt8) (r : Bool), skipN r l ≤ l.length := by
      intro l
      induction l with
      | nil => intro r; simp [skipN]
      | cons c l ih =>
        intro r
        have h1 := ih true
        have h2 := ih false
        unfold skipN
        rw [List.length_cons]
        split
        · split <;> omega
        · split
          · omega
          · split <;> omega
    have := this ((tl s.src).drop s.p) false
    rw [List.length_drop] at this
    omega
  rw [← hq, ← hR]
  rw [← hq] at HS
  have H0 := fun wx hx => here_any g { s with p := q } wx hx hqs (by simp only; omega)
  simp only at H0
  have HX := Lib.hid hX
  have HBX := Lib.hid bx
  have HSW := Lib.hid hsW
  have HW := Lib.hid hW
  obtain ⟨z, hzz⟩ : ∃ z, z = w.heap.size := ⟨_, rfl⟩
  have HZZ := Lib.hid hzz
  clear h hX bx hP hsW hW hq
  go_enter Tryz.func54, Tryz.ntmps54
  change Code.wp Tryz.prog _ (NeQ w g s q R) _ _
  go_wp2_with fail
  apply on_enter
  change Code.wp Tryz.prog _ (viaL (On Tryz.prog (scopeQ Tryz.f54) _) _) _ _
  rw [← HW.out, ← hzz]
  clear hzz
  go_wp2_with fail
  refine HS.mono ?_
  rintro e w0 ⟨rfl, hP0, hb0⟩
  have HW0 : Hid (Nst w g s q q w0) := Lib.hid ⟨Nat.le_refl _, hqs, hP0, (But.of_below HBX.out).trans (hb0.mono (by have := HSW.out; omega)), (hb0.2.2.2.2 _ (by have := HSW.out; omega) (by omega)).trans HX.out, hlt⟩
  have c1 := hP0.c1
  simp only at c1
  clear HS hb0 hP0
  go_wp2_with fail
  refine (H0 w0 (by exact HW0.out.pb)).mono ?_
  rintro e w1 ⟨rfl, hb⟩
  have HW1 := Lib.hid (HW0.out.adv hb)
  have c1 := HW1.out.pb.c1
  have f1 := HW1.out.pb.free 1
  simp only at c1
  clear H0 HW0 hb
  have hq4 : q ≤ 4194304 := by omega
  by_cases hl : q < (tl s.src).length
  · rw [hereI_at hl]
    have hdc := drop_cons _ q hl
    obtain ⟨c, hcc⟩ : ∃ c, c = (tl s.src)[q] := ⟨_, rfl⟩
    have hgc : (tl s.src)[q]? = some c := by rw [List.getElem?_eq_getElem hl, hcc]
    rw [← hcc] at hdc ⊢
    have hb8 := UInt8.toNat_lt c
    have HDC := Lib.hid hdc
    rw [hdc] at hR
    clear hcc hdc
    have hm1 : ((c.toNat : Int) == -1) = false := by simp
    by_cases h34 : c.toNat = 34
    · rw [tok_word h34] at hR
      have hk := wordW_kind ((tl s.src).drop (q + 1)) 0 0
      have hd : ((c.toNat : Int) == 34) = true := by simp [h34]
      have HWD := word_any g { s with p := q } w1 HW1.out.pb hs ⟨c, hgc, h34⟩
      have HR := Lib.hid hR
      have HK := Lib.hid hk
      obtain ⟨r, hr⟩ : ∃ r, r = wordW 0 0 ((tl s.src).drop (q + 1)) := ⟨_, rfl⟩
      rw [← hr] at HWD HR HK
      clear hR hk h34 hgc hr c1 f1
      go_wp2_with fail
      refine HWD.mono ?_
      rintro e w2 ⟨p, rfl, hp4, hps, hP2, hb2⟩
      have hsz := HW1.out.but.size
      have hz2 : Blk0 w2 z 0 0 ⟨#[]⟩ := (hb2.2.2.2.2 z (by have h0 : w.heap.size < w1.heap.size := (Array.getElem?_eq_some_iff.1 HW1.out.z).1
                                                           have := HZZ.out; omega) (by have := HZZ.out; omega)).trans (by rw [HZZ.out]; exact HW1.out.z)
      have x0 := cell_of_block hz2 0
      have x1 := cell_of_block hz2 1
      have x2 := cell_of_block hz2 2
      have f0 := fun j => unfrozen_of_block hz2 j
      have hgz : g ≠ z := by have := HZZ.out; omega
      have HZ3 := Lib.hid (tok_store hz2 (r.1 : Nat) (q : Nat) (textOf (wordT r)))
      have HP3 := Lib.hid (hP2.three hgz (.int .i64 (r.1 : Nat)) (.int .i64 (q : Nat)) (.string (textOf (wordT r))))
      have HB3 := Lib.hid ((HW1.out.but.trans (hb2.mono hsz)).three (z := z) (by have := HZZ.out; omega) (.int .i64 (r.1 : Nat)) (.int .i64 (q : Nat)) (.string (textOf (wordT r))))
      have HP4 := Lib.hid hp4
      clear HWD hz2 hP2 hb2 hp4
      simp only
      go_wp2_with fail
      rw [viaL_ret]
      obtain ⟨WF, hWF⟩ : ∃ WF, WF = (((w2.setCell ⟨z, 0, none⟩ (.int .i64 (r.1 : Nat))).setCell ⟨z, 1, none⟩ (.int .i64 (q : Nat))).setCell ⟨z, 2, none⟩ (.string (textOf (wordT r)))) := ⟨_, rfl⟩
      rw [← hWF] at HZ3 HP3 HB3 ⊢
      have y0 := cell_of_block HZ3.out 0
      have y1 := cell_of_block HZ3.out 1
      have y2 := cell_of_block HZ3.out 2
      exact bodyPost_ret (v := .agg #[.int .i64 (r.1 : Nat), .int .i64 (q : Nat), .string (textOf (wordT r))]) (by simp [results, Tryz.results54, go_sem, y0, y1, y2]) rfl ⟨p, (by rw [HR.out]), (fun h5 => by rw [HR.out] at h5 ⊢; have h6 := HP4.out (by have h7 : r.1 ≤ 5 := h5; have := HK.out; omega); have h8 : p = q + 1 + r.2.1 := h6; show p = q + (r.2.1 + 1); omega), hps, HP3.out, HB3.out⟩
    · have hd : ((c.toNat : Int) == 34) = false := by simp; omega
      have H1 := fun wx => isSmall_any (c.toNat : Int) wx
      have e1 : (decide (97 ≤ (c.toNat : Int)) && decide ((c.toNat : Int) ≤ 122)) = smallB c := by
        unfold smallB
        rw [Bool.eq_iff_iff]; simp only [Bool.and_eq_true, decide_eq_true_eq]; omega
      rw [e1] at H1
      clear e1
      cases h1 : smallB c with
      | true =>
        rw [tok_name h34 h1, ← HDC.out] at hR
        rw [h1] at H1
        have HR := Lib.hid hR
        clear hR h34 h1 hgc
        go_wp2_with fail
        refine (H1 _).mono ?_
        rintro e w2 ⟨rfl, he⟩
        obtain rfl := he.symm
        clear H1
        go_wp2_with (apply wp_goto; change On _ _ _ _ _ _)
        have hzE := HZZ.out
        subst hzE
        exact on_all (JNe w g s q R) (next_step w g s q R hs) _ 0 _ _ ⟨q, 6, _, ⟨rfl, rfl, rfl, rfl, rfl, rfl, rfl⟩, HW1.out, .inr (.inr (.inr (.inl ⟨rfl, rfl, by rw [HR.out, Nat.sub_self, Nat.zero_add]⟩)))⟩
      | false =>
        rw [h1] at H1
        by_cases h48 : c.toNat = 48
        · rw [tok_zero h34 h1 h48, ← HDC.out] at hR
          have hd2 : ((c.toNat : Int) == 48) = true := by simp [h48]
          have HR := Lib.hid hR
          clear hR h34 h1 h48 hgc
          go_wp2_with fail
          refine (H1 _).mono ?_
          rintro e w2 ⟨rfl, he⟩
          obtain rfl := he.symm
          clear H1
          go_wp2_with (apply wp_goto; change On _ _ _ _ _ _)
          have hzE := HZZ.out
          subst hzE
          exact on_all (JNe w g s q R) (next_step w g s q R hs) 2 1 _ _ ⟨q + 1, 6, _, ⟨rfl, rfl, rfl, rfl, rfl, rfl, rfl⟩, HW1.out.set (q + 1) (by omega) (by omega), .inr (.inr (.inl ⟨rfl, rfl, by rw [HR.out, Nat.add_sub_cancel_left]⟩))⟩
        · have hd2 : ((c.toNat : Int) == 48) = false := by simp; omega
          have H2 := fun wx => isDigit_any (c.toNat : Int) wx
          have e2 : (decide (48 ≤ (c.toNat : Int)) && decide ((c.toNat : Int) ≤ 57)) = digitB c := by
            unfold digitB
            rw [Bool.eq_iff_iff]; simp only [Bool.and_eq_true, decide_eq_true_eq]; omega
          rw [e2] at H2
          clear e2
          cases h2 : digitB c with
          | true =>
            rw [tok_digits h34 h1 h48 h2, ← HDC.out] at hR
            rw [h2] at H2
            have HR := Lib.hid hR
            clear hR h34 h1 h48 h2 hgc
            go_wp2_with fail
            refine (H1 _).mono ?_
            rintro e w2 ⟨rfl, he⟩
            obtain rfl := he.symm
            clear H1
            go_wp2_with fail
            refine (H2 _).mono ?_
            rintro e w2 ⟨rfl, he⟩
            obtain rfl := he.symm
            clear H2
            go_wp2_with (apply wp_goto; change On _ _ _ _ _ _)
            have hzE := HZZ.out
            subst hzE
            exact on_all (JNe w g s q R) (next_step w g s q R hs) _ 2 _ _ ⟨q, 6, _, ⟨rfl, rfl, rfl, rfl, rfl, rfl, rfl⟩, HW1.out, .inr (.inr (.inr (.inr (.inl ⟨rfl, rfl, by omega, by rw [HR.out, Nat.sub_self, Nat.zero_add]⟩))))⟩
          | false =>
            rw [h2] at H2
            have H3 := fun wx (hx : Nst w g s q q wx) => standsR_any g { s with p := q } ⟨#[85, 43]⟩ wx hx.pb hqs hs
            simp only [stands_iff2] at H3
            by_cases h4 : ((tl s.src).drop q).take 2 = [85, 43]
            · have h4' := h4
              rw [HDC.out] at h4'
              rw [tok_rune h34 h1 h48 h2 h4', ← HDC.out] at hR
              simp only [decide_eq_true h4] at H3
              have hq2 : q + 2 ≤ s.src.size := by
                have := congrArg List.length h4
                simp at this
                omega
              have HR : Hid (digB R ((tl s.src).drop q) (tl s.src) q (q + 2)) := Lib.hid ⟨((tl s.src).drop (q + 2)).takeWhile capB, (fun c hc => List.all_eq_true.1 List.all_takeWhile c hc), by rw [hR, List.drop_drop], by simp⟩
              clear hR h34 h1 h48 h2 h4 h4' hgc
              go_wp2_with fail
              refine (H1 _).mono ?_
              rintro e w2 ⟨rfl, he⟩
              obtain rfl := he.symm
              clear H1
              go_wp2_with fail
              refine (H2 _).mono ?_
              rintro e w2 ⟨rfl, he⟩
              obtain rfl := he.symm
              clear H2
              go_wp2_with fail
              refine (H3 _ (by exact HW1.out)).mono ?_
              rintro e wb ⟨rfl, hbb⟩
              have HW1 := Lib.hid (HW1.out.adv hbb)
              have c1 := HW1.out.pb.c1
              have f1 := HW1.out.pb.free 1
              simp only at c1
              clear H3 hbb
              go_wp2_with (apply wp_goto; change On _ _ _ _ _ _)
              have hzE := HZZ.out
              subst hzE
              exact on_all (JNe w g s q R) (next_step w g s q R hs) _ 3 _ _ ⟨q + 2, 6, _, ⟨rfl, rfl, rfl, rfl, rfl, rfl, rfl⟩, HW1.out.set (q + 2) (by omega) hq2, .inr (.inr (.inr (.inr (.inr ⟨rfl, rfl, Nat.le_refl _, rfl, HR.out⟩))))⟩
            · simp only [decide_eq_false h4] at H3
              have h4' := h4
              rw [HDC.out] at h4'
              have H4 := fun wx (hx : Nst w g s q q wx) => standsR_any g { s with p := q } ⟨#[46, 46]⟩ wx hx.pb hqs hs
              simp only [stands_iff2] at H4
              by_cases h5 : ((tl s.src).drop q).take 2 = [46, 46]
              · have h5' := h5
                rw [HDC.out] at h5'
                rw [tok_to h34 h1 h48 h2 h4' h5', ← HDC.out] at hR
                simp only [decide_eq_true h5] at H4
                have hq2 : q + 2 ≤ s.src.size := by
                  have := congrArg List.length h5
                  simp at this
                  omega
                have HR := Lib.hid hR
                clear hR h34 h1 h48 h2 h4 h4' h5 h5' hgc
                go_wp2_with fail
                refine (H1 _).mono ?_
                rintro e w2 ⟨rfl, he⟩
                obtain rfl := he.symm
                clear H1
                go_wp2_with fail
                refine (H2 _).mono ?_
                rintro e w2 ⟨rfl, he⟩
                obtain rfl := he.symm
                clear H2
                go_wp2_with fail
                refine (H3 _ (by exact HW1.out)).mono ?_
                rintro e wb ⟨rfl, hbb⟩
                have HW1 := Lib.hid (HW1.out.adv hbb)
                have c1 := HW1.out.pb.c1
                have f1 := HW1.out.pb.free 1
                simp only at c1
                clear H3 hbb
                go_wp2_with fail
                refine (H4 _ (by exact HW1.out)).mono ?_
                rintro e wb ⟨rfl, hbb⟩
                have HW1 := Lib.hid (HW1.out.adv hbb)
                have c1 := HW1.out.pb.c1
                have f1 := HW1.out.pb.free 1
                simp only at c1
                clear H4 hbb
                go_wp2_with (apply wp_goto; change On _ _ _ _ _ _)
                have hzE := HZZ.out
                subst hzE
                exact on_all (JNe w g s q R) (next_step w g s q R hs) 0 4 _ _ ⟨q + 2, 5, _, ⟨rfl, rfl, rfl, rfl, rfl, rfl, rfl⟩, HW1.out.set (q + 2) (by omega) hq2, .inl ⟨rfl, rfl, by rw [HR.out, Nat.add_sub_cancel_left]⟩⟩
              · simp only [decide_eq_false h5] at H4
                have h5' := h5
                rw [HDC.out] at h5'
                have H5 := fun wx => isOneOf_any (c.toNat : Int) signS (by omega) (by omega) wx
                rw [oneI_sign] at H5
                by_cases h6 : c.toNat = 123 ∨ c.toNat = 125 ∨ c.toNat = 43 ∨ c.toNat = 61
                · rw [tok_sign h34 h1 h48 h2 h4' h5' h6, ← HDC.out] at hR
                  rw [decide_eq_true h6] at H5
                  have HR := Lib.hid hR
                  clear hR h34 h1 h48 h2 h4 h4' h5 h5' h6 hgc
                  go_wp2_with fail
                  refine (H1 _).mono ?_
                  rintro e w2 ⟨rfl, he⟩
                  obtain rfl := he.symm
                  clear H1
                  go_wp2_with fail
                  refine (H2 _).mono ?_
                  rintro e w2 ⟨rfl, he⟩
                  obtain rfl := he.symm
                  clear H2
                  go_wp2_with fail
                  refine (H3 _ (by exact HW1.out)).mono ?_
                  rintro e wb ⟨rfl, hbb⟩
                  have HW1 := Lib.hid (HW1.out.adv hbb)
                  have c1 := HW1.out.pb.c1
                  have f1 := HW1.out.pb.free 1
                  simp only at c1
                  clear H3 hbb
                  go_wp2_with fail
                  refine (H4 _ (by exact HW1.out)).mono ?_
                  rintro e wb ⟨rfl, hbb⟩
                  have HW1 := Lib.hid (HW1.out.adv hbb)
                  have c1 := HW1.out.pb.c1
                  have f1 := HW1.out.pb.free 1
                  simp only at c1
                  clear H4 hbb
                  go_wp2_with fail
                  refine (H5 _).mono ?_
                  rintro e w2 ⟨rfl, he⟩
                  obtain rfl := he.symm
                  clear H5
                  go_wp2_with (apply wp_goto; change On _ _ _ _ _ _)
                  have hzE := HZZ.out
                  subst hzE
                  exact on_all (JNe w g s q R) (next_step w g s q R hs) 0 4 _ _ ⟨q + 1, 5, _, ⟨rfl, rfl, rfl, rfl, rfl, rfl, rfl⟩, HW1.out.set (q + 1) (by omega) (by omega), .inl ⟨rfl, rfl, by rw [HR.out, Nat.add_sub_cancel_left]⟩⟩
                · rw [tok_none h34 h1 h48 h2 h4' h5' h6] at hR
                  rw [decide_eq_false h6] at H5
                  have HR := Lib.hid hR
                  clear hR h34 h1 h48 h2 h4 h4' h5 h5' h6 hgc
                  go_wp2_with fail
                  refine (H1 _).mono ?_
                  rintro e w2 ⟨rfl, he⟩
                  obtain rfl := he.symm
                  clear H1
                  go_wp2_with fail
                  refine (H2 _).mono ?_
                  rintro e w2 ⟨rfl, he⟩
                  obtain rfl := he.symm
                  clear H2
                  go_wp2_with fail
                  refine (H3 _ (by exact HW1.out)).mono ?_
                  rintro e wb ⟨rfl, hbb⟩
                  have HW1 := Lib.hid (HW1.out.adv hbb)
                  have c1 := HW1.out.pb.c1
                  have f1 := HW1.out.pb.free 1
                  simp only at c1
                  clear H3 hbb
                  go_wp2_with fail
                  refine (H4 _ (by exact HW1.out)).mono ?_
                  rintro e wb ⟨rfl, hbb⟩
                  have HW1 := Lib.hid (HW1.out.adv hbb)
                  have c1 := HW1.out.pb.c1
                  have f1 := HW1.out.pb.free 1
                  simp only at c1
                  clear H4 hbb
                  go_wp2_with fail
                  refine (H5 _).mono ?_
                  rintro e w2 ⟨rfl, he⟩
                  obtain rfl := he.symm
                  clear H5
                  go_wp2_with (apply wp_goto; change On _ _ _ _ _ _)
                  have hzE := HZZ.out
                  subst hzE
                  exact on_all (JNe w g s q R) (next_step w g s q R hs) 0 4 _ _ ⟨q, 6, _, ⟨rfl, rfl, rfl, rfl, rfl, rfl, rfl⟩, HW1.out, .inl ⟨rfl, rfl, by rw [HR.out, Nat.sub_self]; rfl⟩⟩
  · rw [hereI_end (by omega)]
    rw [List.drop_of_length_le (by omega)] at hR
    have HR := Lib.hid hR
    clear hR
    go_wp2_with (apply wp_goto; change On _ _ _ _ _ _)
    have hzE := HZZ.out
    subst hzE
    exact on_all (JNe w g s q R) (next_step w g s q R hs) 0 4 _ _ ⟨q, 8, _, ⟨rfl, rfl, rfl, rfl, rfl, rfl, rfl⟩, HW1.out, .inl ⟨rfl, rfl, by rw [HR.out, Nat.sub_self]; rfl⟩⟩
end Go.Proofs.YtonbfcpbgkpbaaaGreatDoor
end
