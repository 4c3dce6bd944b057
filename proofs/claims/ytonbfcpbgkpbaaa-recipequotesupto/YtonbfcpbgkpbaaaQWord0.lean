/- recipe's scanner.word: what stands at its labels. -/
import Derived.Test.YtonbfcpbgkpbaaaQSkip
import Derived.Test.YtonbfcpbgkpbaaaQText
namespace Go.Proofs.Ytonbfcpbgkpbaaa
open Go.RowKit Go.Sort Go.Joins
set_option linter.unusedVariables false
set_option linter.unusedSimpArgs false
set_option maxRecDepth 100000
def scopeQ (f : Func) : Code := match f.body with
  | some (.seq _ (.seq _ (.scope c))) => c
  | some (.seq _ (.scope c)) => c
  | _ => .skip
theorem OwnS.but {w w' : World} {base g B : Nat} {v : Value} {l : List UInt8} (h : Oc.OwnS w base v l) (hb : But g B w w') (hB : w.heap.size ≤ B) (hg : g < base) : Oc.OwnS w' base v l := by
  refine ⟨h.1, ?_⟩
  rcases h.2 with h0 | ⟨b, cap, cur, hv, hbb, hh, r⟩
  · exact .inl h0
  · refine .inr ⟨b, cap, cur, hv, hbb, ?_, r⟩
    rw [hb.2.2.2.2 b (Nat.lt_of_lt_of_le (Array.getElem?_eq_some_iff.1 hh).1 hB) (by omega)]
    exact hh
theorem OwnS.slice {w : World} {base : Nat} {v : Value} {l : List UInt8} (h : Oc.OwnS w base v l) : ∃ a cap, v = .slice a l.length cap ∧ Oc.BS w a l := by
  rcases Nat.eq_zero_or_pos l.length with h0 | h0
  · have hl := List.length_eq_zero_iff.1 h0
    subst hl
    rcases h.2 with ⟨hv, -⟩ | ⟨b, cap, cur, hv, r⟩
    · exact ⟨none, 0, hv, .inl rfl⟩
    · exact ⟨_, _, hv, .inl rfl⟩
  · obtain ⟨b, cap, hv, -, -, -, -, hb⟩ := h.form h0
    exact ⟨_, _, hv, hb⟩
theorem text_of {w : World} {base : Nat} {v : Value} {l : List UInt8} (h : Oc.OwnS w base v l) : (convert 62 9 v).run Try.prog w = .ok (.string (textOf l)) w := by
  obtain ⟨a, cap, rfl, hb⟩ := OwnS.slice h
  rcases hb with rfl | ⟨b, off, rfl, hc⟩
  · exact text_zero 62 5 9 Try.underlying62 Try.underlying5 Try.underlying9 a cap w
  · exact text_bytes 62 5 9 Try.underlying62 Try.underlying5 Try.underlying9 b off cap l w hc
abbrev Blk0 (w : World) (z : Nat) (k a : Int) (s : ByteArray) : Prop := w.heap[z]? = some (.cells #[.int .i64 k, .int .i64 a, .string s] 76 (0, 0))
def WordPost (w : World) (g : Nat) (s : PZ) (R : Nat × Nat × List UInt8) (e : Ending) (w' : World) : Prop :=
  ∃ p, e = .returned (.agg #[.int .i64 (R.1 : Nat), .int .i64 (s.p : Nat), .string (textOf (wordT R))]) ∧ (R.1 = 4 → p = s.p + 1 + R.2.1) ∧ p ≤ s.src.size ∧ PB w' g { s with p := p } ∧ But g w.heap.size w w'
abbrev WoQ (w : World) (g : Nat) (s : PZ) (R : Nat × Nat × List UInt8) : Exit → Act → World → Prop := bodyPost Try.prog Try.f62 (WordPost w g s R)
def FWo (g z from_ : Nat) (h : UInt8) (v : Value) (c : Int) (a : Act) : Prop := ∃ t1 t7 t8 t9 t10 t11 t12 t13 t14 t15 t16 t17 t18 t19 t20 t21 t22 t23 t24 t25 t26 t27 t28 t29 t30 t31 t32 t33 t34 t35 t36 t37 t38 t39 t40 t41 t42 t43 t44 t45 t46 t47 t48 t49 t50 t51 t52 t53 t54 t55 t56 t57 t58 t59 t60 t61 t62 t63 t64 t65 t66 t67 t68 t69 t70 t71 t72 t73 t74, a = ⟨#[.pointer (some ⟨g, 0, none⟩), t1, .pointer (some ⟨z, 0, none⟩), .int .i64 (from_ : Nat), .int .i64 (h.toNat : Int), v, .int .i64 c, t7, t8, t9, t10, t11, t12, t13, t14, t15, t16, t17, t18, t19, t20, t21, t22, t23, t24, t25, t26, t27, t28, t29, t30, t31, t32, t33, t34, t35, t36, t37, t38, t39, t40, t41, t42, t43, t44, t45, t46, t47, t48, t49, t50, t51, t52, t53, t54, t55, t56, t57, t58, t59, t60, t61, t62, t63, t64, t65, t66, t67, t68, t69, t70, t71, t72, t73, t74], []⟩
/-- What stands at a label of a word. -/
structure Wst (w : World) (g : Nat) (s : PZ) (k : Nat) (acc : List UInt8) (v : Value) (wr : World) : Prop where
  hk : k ≤ s.src.size
  pb : PB wr g { s with p := k }
  but : But g w.heap.size w wr
  z : Blk0 wr w.heap.size 0 0 ⟨#[]⟩
  own : Oc.OwnS wr (w.heap.size + 1) v acc
  le : acc.length ≤ k
  hg : g < w.heap.size
def stOf (lb : Nat) : Nat := if lb = 1 then 0 else if lb = 0 then 1 else 2
def JWo (w : World) (g : Nat) (s : PZ) (R : Nat × Nat × List UInt8) (n lb : Nat) (a : Act) (wr : World) : Prop :=
  ∃ (k : Nat) (h : UInt8) (acc : List UInt8) (v : Value) (c : Int), FWo g w.heap.size s.p h v c a ∧ Wst w g s k acc v wr ∧
    ((lb = 2 ∧ n = 0 ∧ R.1 = (if c = -1 then 7 else 6)) ∨
     ((lb = 0 ∨ lb = 1 ∨ lb = 3 ∧ lowB h = true) ∧ n = s.src.size - k + 1 ∧ ∃ m, s.p + 1 + m = k ∧ R = ((wordW (stOf lb) h ((tl s.src).drop k)).1, m + (wordW (stOf lb) h ((tl s.src).drop k)).2.1, acc ++ (wordW (stOf lb) h ((tl s.src).drop k)).2.2)))
theorem Oc.OwnS.nil (w : World) (base : Nat) : Oc.OwnS w base (.slice none 0 0) [] := World.ownsRow_nil w base 5 1
theorem own_byte (W : World) (c : UInt8) : Oc.BS (W.alloc (.cells #[.int .u8 (c.toNat : Int)] 5)) (some ⟨W.heap.size, 0, none⟩) [c] := Oc.BS.new W [c] 5
/-- Behind a byte that is laid behind what is told. -/
theorem Wst.push {w : World} {g : Nat} {s : PZ} {k : Nat} {acc : List UInt8} {v : Value} {wr : World} (h : Wst w g s k acc v wr) (c : UInt8) (hs : s.src.size ≤ 4194304) (hk1 : acc.length + 1 ≤ k) :
    ∃ v' w', (Builtin.append_ #[62, 62] 62 #[v, .slice (some ⟨wr.heap.size, 0, none⟩) 1 1]).run Try.prog (wr.alloc (.cells #[.int .u8 (c.toNat : Int)] 5)) = .ok v' w' ∧ Wst w g s k (acc ++ [c]) v' w' := by
  have hbx : Below wr.heap.size wr (wr.alloc (.cells #[.int .u8 (c.toNat : Int)] 5)) := box_below wr _
  have hsz := h.but.size
  have hzl : w.heap.size < wr.heap.size := (Array.getElem?_eq_some_iff.1 h.z).1
  obtain ⟨v', w', h1, h2, h3⟩ := Oc.run_own_bytes (wr.alloc (.cells #[.int .u8 (c.toNat : Int)] 5)) (w.heap.size + 1) v acc [c] _ 1 (h.own.below hbx (Nat.le_refl _)) (own_byte wr c) (by simp) (by simp; omega) (by have := h.le; have := h.hk; simp; omega)
  have hB : Below (w.heap.size + 1) wr w' := (hbx.mono (by omega)).trans h3
  have hg : g < w.heap.size + 1 := by have := h.hg; omega
  refine ⟨v', w', h1, h.hk, h.pb.below hB hg, h.but.trans (But.of_below (hB.mono (by omega))), (hB.block _ (by omega)).trans h.z, h2, by simp; omega, h.hg⟩
theorem tok_store {w : World} {z : Nat} {k a : Int} {s : ByteArray} (h : Blk0 w z k a s) (k' a' : Int) (s' : ByteArray) : Blk0 (((w.setCell ⟨z, 0, none⟩ (.int .i64 k')).setCell ⟨z, 1, none⟩ (.int .i64 a')).setCell ⟨z, 2, none⟩ (.string s')) z k' a' s' :=
  block_setCell (i := 2) (block_setCell (i := 1) (block_setCell (i := 0) h (.int .i64 k')) (.int .i64 a')) (.string s')
theorem But.three {g B : Nat} {w w' : World} (h : But g B w w') {z : Nat} (hz : B ≤ z) (u0 u1 u2 : Value) : But g B w (((w'.setCell ⟨z, 0, none⟩ u0).setCell ⟨z, 1, none⟩ u1).setCell ⟨z, 2, none⟩ u2) :=
  ((h.above (p := ⟨z, 0, none⟩) hz u0).above (p := ⟨z, 1, none⟩) hz u1).above (p := ⟨z, 2, none⟩) hz u2
theorem PB.three {w : World} {g z : Nat} {s : PZ} (h : PB w g s) (hz : g ≠ z) (u0 u1 u2 : Value) : PB (((w.setCell ⟨z, 0, none⟩ u0).setCell ⟨z, 1, none⟩ u1).setCell ⟨z, 2, none⟩ u2) g s := ((h.other hz u0).other hz u1).other hz u2
/-- Behind a byte that is read. -/
theorem Wst.read {w : World} {g : Nat} {s : PZ} {k : Nat} {acc : List UInt8} {v : Value} {wr w1 : World} (h : Wst w g s k acc v wr) (hp : PB w1 g { s with p := nextP (tl s.src) k }) (hb : But g wr.heap.size wr w1) : Wst w g s (nextP (tl s.src) k) acc v w1 := by
  have hsz := h.but.size
  have hzl : w.heap.size < wr.heap.size := (Array.getElem?_eq_some_iff.1 h.z).1
  have hn : k ≤ nextP (tl s.src) k ∧ nextP (tl s.src) k ≤ s.src.size := by
    unfold nextP
    have := h.hk
    have := tl_len s.src
    split <;> omega
  have := h.hg
  have := h.le
  exact ⟨hn.2, hp, h.but.trans (hb.mono hsz), (hb.2.2.2.2 _ hzl (by omega)).trans h.z, OwnS.but h.own hb (Nat.le_refl _) (by omega), by omega, h.hg⟩
set_option maxHeartbeats 4000000 in
/-- The label behind which a word is told to be none. -/
theorem word_wrong (w : World) (g : Nat) (s : PZ) (R : Nat × Nat × List UInt8) (hs : s.src.size ≤ 4194304) (L : Nat → Act → World → Prop) (k : Nat) (h : UInt8) (acc : List UInt8) (v : Value) (c : Int) (a : Act) (wr : World)
    (hF : FWo g w.heap.size s.p h v c a) (hW : Wst w g s k acc v wr) (hR : R.1 = (if c = -1 then 7 else 6)) :
    (restQ (scopeQ Try.f62) 2).wp Try.prog (viaL L (WoQ w g s R)) a wr := by
  obtain ⟨t1, t7, t8, t9, t10, t11, t12, t13, t14, t15, t16, t17, t18, t19, t20, t21, t22, t23, t24, t25, t26, t27, t28, t29, t30, t31, t32, t33, t34, t35, t36, t37, t38, t39, t40, t41, t42, t43, t44, t45, t46, t47, t48, t49, t50, t51, t52, t53, t54, t55, t56, t57, t58, t59, t60, t61, t62, t63, t64, t65, t66, t67, t68, t69, t70, t71, t72, t73, t74, rfl⟩ := hF
  have hz := hW.z
  have hP := hW.pb
  obtain ⟨z, hzz⟩ : ∃ z, z = w.heap.size := ⟨_, rfl⟩
  have hgz : g ≠ z := by have := hW.hg; omega
  have hzb : w.heap.size ≤ z := by omega
  rw [← hzz] at hz ⊢
  have HB := Lib.hid hW.but
  have HK := hW.hk
  have x0 := cell_of_block hz 0
  have x1 := cell_of_block hz 1
  have x2 := cell_of_block hz 2
  have f0 := fun j => unfrozen_of_block hz j
  have HZB := Lib.hid hzb
  clear hW hzz hzb
  by_cases hc : c = -1
  · rw [if_pos hc] at hR
    have hd : (c == -1) = true := by simp [hc]
    have HR := Lib.hid hR
    have HWT : Hid (wordT R = []) := Lib.hid (by unfold wordT; rw [hR]; rfl)
    have HZ3 := Lib.hid (tok_store hz 7 (s.p : Nat) ⟨#[]⟩)
    have HP3 := Lib.hid (hP.three hgz (.int .i64 7) (.int .i64 (s.p : Nat)) (.string ⟨#[]⟩))
    have HB3 := Lib.hid (HB.out.three HZB.out (.int .i64 7) (.int .i64 (s.p : Nat)) (.string ⟨#[]⟩))
    clear hc hR hz hP
    change Code.wp _ (Code.seq _ _) _ _ _
    go_wp2_with fail
    rw [viaL_ret]
    obtain ⟨WF, hWF⟩ : ∃ WF, WF = (((wr.setCell ⟨z, 0, none⟩ (.int .i64 7)).setCell ⟨z, 1, none⟩ (.int .i64 (s.p : Nat))).setCell ⟨z, 2, none⟩ (.string ⟨#[]⟩)) := ⟨_, rfl⟩
    rw [← hWF] at HZ3 HP3 HB3 ⊢
    have y0 := cell_of_block HZ3.out 0
    have y1 := cell_of_block HZ3.out 1
    have y2 := cell_of_block HZ3.out 2
    exact bodyPost_ret (v := .agg #[.int .i64 7, .int .i64 (s.p : Nat), .string ⟨#[]⟩]) (by simp [results, Try.results62, go_sem, y0, y1, y2]) rfl ⟨k, (by rw [HR.out, HWT.out]; rfl), (fun e => by rw [HR.out] at e; cases e), HK, HP3.out, HB3.out⟩
  · rw [if_neg hc] at hR
    have hd : (c == -1) = false := by simpa using hc
    have HR := Lib.hid hR
    have HWT : Hid (wordT R = []) := Lib.hid (by unfold wordT; rw [hR]; rfl)
    have HZ3 := Lib.hid (tok_store hz 6 (s.p : Nat) ⟨#[]⟩)
    have HP3 := Lib.hid (hP.three hgz (.int .i64 6) (.int .i64 (s.p : Nat)) (.string ⟨#[]⟩))
    have HB3 := Lib.hid (HB.out.three HZB.out (.int .i64 6) (.int .i64 (s.p : Nat)) (.string ⟨#[]⟩))
    clear hc hR hz hP
    change Code.wp _ (Code.seq _ _) _ _ _
    go_wp2_with fail
    rw [viaL_ret]
    obtain ⟨WF, hWF⟩ : ∃ WF, WF = (((wr.setCell ⟨z, 0, none⟩ (.int .i64 6)).setCell ⟨z, 1, none⟩ (.int .i64 (s.p : Nat))).setCell ⟨z, 2, none⟩ (.string ⟨#[]⟩)) := ⟨_, rfl⟩
    rw [← hWF] at HZ3 HP3 HB3 ⊢
    have y0 := cell_of_block HZ3.out 0
    have y1 := cell_of_block HZ3.out 1
    have y2 := cell_of_block HZ3.out 2
    exact bodyPost_ret (v := .agg #[.int .i64 6, .int .i64 (s.p : Nat), .string ⟨#[]⟩]) (by simp [results, Try.results62, go_sem, y0, y1, y2]) rfl ⟨k, (by rw [HR.out, HWT.out]; rfl), (fun e => by rw [HR.out] at e; cases e), HK, HP3.out, HB3.out⟩
theorem wordW_nil (st : Nat) (h : UInt8) : wordW st h [] = (7, 0, []) := by
  cases st with
  | zero => rfl
  | succ n => cases n <;> rfl
theorem w0_q {h c : UInt8} {l : List UInt8} (e : c.toNat = 34) : wordW 0 h (c :: l) = (4, 1, []) := by rw [wordW, if_pos e]
theorem w0_b {h c : UInt8} {l : List UInt8} (e : c.toNat = 92) : wordW 0 h (c :: l) = wStep (wordW 1 h l) := by rw [wordW, if_neg (by omega), if_pos e]
theorem w0_s {h c : UInt8} {l : List UInt8} (e : ¬ c.toNat = 34) (e2 : ¬ c.toNat = 92) (e3 : shownB c = true) : wordW 0 h (c :: l) = wCons c (wordW 0 h l) := by rw [wordW, if_neg e, if_neg e2, if_pos e3]
theorem w0_n {h c : UInt8} {l : List UInt8} (e : ¬ c.toNat = 34) (e2 : ¬ c.toNat = 92) (e3 : shownB c = false) : wordW 0 h (c :: l) = (6, 0, []) := by rw [wordW, if_neg e, if_neg e2, if_neg (by rw [e3]; decide)]
theorem w1_q {h c : UInt8} {l : List UInt8} (e : c.toNat = 34 ∨ c.toNat = 92) : wordW 1 h (c :: l) = wCons c (wordW 0 h l) := by rw [wordW, if_pos e]
theorem w1_d {h c : UInt8} {l : List UInt8} (e : ¬ (c.toNat = 34 ∨ c.toNat = 92)) (e2 : lowB c = true) : wordW 1 h (c :: l) = wStep (wordW 2 c l) := by rw [wordW, if_neg e, if_pos e2]
theorem w1_n {h c : UInt8} {l : List UInt8} (e : ¬ (c.toNat = 34 ∨ c.toNat = 92)) (e2 : lowB c = false) : wordW 1 h (c :: l) = (6, 0, []) := by rw [wordW, if_neg e, if_neg (by rw [e2]; decide)]
theorem w2_d {h c : UInt8} {l : List UInt8} (e : lowB c = true) (e2 : shownB (byteV h c) = false) : wordW 2 h (c :: l) = wCons (byteV h c) (wordW 0 h l) := by rw [wordW, if_pos ⟨e, e2⟩]
theorem w2_n {h c : UInt8} {l : List UInt8} (e : ¬ (lowB c = true ∧ shownB (byteV h c) = false)) : wordW 2 h (c :: l) = (6, 0, []) := by rw [wordW, if_neg e]
theorem nextP_in {l : List UInt8} {k : Nat} (h : k < l.length) : nextP l k = k + 1 := if_pos h
theorem nextP_end {l : List UInt8} {k : Nat} (h : ¬ k < l.length) : nextP l k = k := if_neg h
theorem shown_eq (c : UInt8) : (decide (32 ≤ (c.toNat : Int)) && decide ((c.toNat : Int) ≤ 126)) = shownB c := by
  unfold shownB
  rw [Bool.eq_iff_iff]; simp; omega
end Go.Proofs.Ytonbfcpbgkpbaaa
