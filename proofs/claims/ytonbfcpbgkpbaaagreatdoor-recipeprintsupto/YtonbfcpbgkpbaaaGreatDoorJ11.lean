import Derived.Test.YtonbfcpbgkpbaaaGreatDoorJ10
import Derived.Test.YtonbfcpbgkpbaaaGreatDoorJ1
import Derived.Test.YtonbfcpbgkpbaaaGreatDoorJ2
import Derived.Test.YtonbfcpbgkpbaaaGreatDoorJ7
import Derived.Laws.BytesArg
section
/- recipe.Print's parts where nothing is printed but the three classes' names: their contracts. -/
namespace Go.Proofs.YtonbfcpbgkpbaaaGreatDoor
open Go.RowKit Go.Sort Go.Joins
set_option linter.unusedVariables false
set_option linter.unusedSimpArgs false
set_option maxRecDepth 100000
set_option maxHeartbeats 1000000 in
theorem string_any (b base : Nat) (v : Value) (acc : List UInt8) (w : World) (h : BI w b base v acc) (h0 : acc ≠ []) (hb : base ≤ w.heap.size) :
    Calls Tryz.prog 21 #[.pointer (some ⟨b, 0, none⟩)] w fun e w' => e = .returned (.string (textOf acc)) ∧ Below base w w' := by
  obtain ⟨p, hp, hbk⟩ := h.at_
  have hl0 : acc.length ≠ 0 := by simpa using h0
  obtain ⟨g, cap, cur, hv, hbg, hg, hnc, hcm, hcs, htake⟩ : ∃ g cap cur, v = .slice (some ⟨g, 0, none⟩) acc.length cap ∧ base ≤ g ∧ w.heap[g]? = some (.cells cur 5 (0, 0)) ∧ acc.length ≤ cap ∧ cap ≤ maxLen ∧ cur.size = cap * 1 ∧ cur.toList.take (acc.length * 1) = Oc.cellsOf acc := by
    rcases h.row.2 with ⟨_, hz⟩ | ⟨g, cap, cur, hv, r⟩
    · exact absurd hz hl0
    · exact ⟨g, cap, cur, hv, r⟩
  subst hv
  have hown := h.row
  have c1 : w.drew.cell? ⟨b, 1, none⟩ = some (.slice (some ⟨g, 0, none⟩) acc.length cap) := by
    have : w.drew.heap[b]? = some (.cells #[p, .slice (some ⟨g, 0, none⟩) acc.length cap] 57 (0, 0)) := hbk
    rw [cell_of_block this]; rfl
  have hSD : (Builtin.unsafeSliceData_ #[50] 84 #[.slice (some ⟨g, 0, none⟩) acc.length cap]).run Tryz.prog w.drew = .ok (.pointer (some ⟨g, 0, none⟩)) w.drew :=
    Lib.run_unsafeSliceData_row _ _ _ _ _ _ (by omega)
  have hUS : (Builtin.unsafeString_ #[84, 3] 9 #[.pointer (some ⟨g, 0, none⟩), .int .i64 (acc.length : Nat)]).run Tryz.prog w.drew = .ok (.string (textOf acc)) (w.drew.freeze ⟨g, 0, none⟩ acc.length) := by
    refine Lib.run_unsafeString_row w.drew 84 3 9 5 Tryz.underlying84 (by kernel_rfl) g cur.size (by have hg' : w.drew.heap[g]? = some (.cells cur 5 (0, 0)) := hg; simp [World.shape?, hg']) acc h0 (by omega) (by unfold maxLen at hcm; omega) ?_
    intro j x hx
    have hj := (List.getElem?_eq_some_iff.1 hx).1
    exact World.ownsRow.cells hown (g := g) rfl j (.int .u8 (x.toNat : Nat)) (by simp [Oc.cellsOf, hx])
  clear h hown hbk hg htake
  go_enter Tryz.func21, Tryz.ntmps21
  go_wp2
  go_region
  all_goals (go_wp2; go_ret; exact ⟨rfl, Lib.below_freeze (Below.drew (Below.refl base w)) (p := ⟨g, 0, none⟩) hbg _⟩)
/-- The first k tokens, a blank between them. -/
def jn (ts : List (List UInt8)) (k : Nat) : List UInt8 := (List.range k).flatMap fun i => (if 0 < i then [32] else []) ++ ts.getD i []
theorem jn_succ (ts : List (List UInt8)) (k : Nat) : jn ts (k + 1) = jn ts k ++ ((if 0 < k then [32] else []) ++ ts.getD k []) := by
  unfold jn
  rw [List.range_succ, List.flatMap_append]
  simp
theorem Bu.more {g : Nat} {w w1 w2 : World} {v v1 : Value} (h1 : Bu g v.ownBlock w.heap.size w w1) (m1 : Moved v v1 w.heap.size) (h2 : Bu g v1.ownBlock w1.heap.size w1 w2) : Bu g v.ownBlock w.heap.size w w2 :=
  ⟨h2.os.trans h1.os, h2.tape.trans h1.tape, h2.output.trans h1.output, Nat.le_trans h1.size h2.size, fun k hk hg ho => (h2.block k (Nat.lt_of_lt_of_le hk h1.size) hg (fun e => by
    rcases m1 k e.symm with h | h
    · exact ho h.symm
    · omega)).trans (h1.block k hk hg ho)⟩
theorem Moved.more {w w1 : World} {v v1 v2 : Value} (m1 : Moved v v1 w.heap.size) (m2 : Moved v1 v2 w1.heap.size) (hs : w.heap.size ≤ w1.heap.size) : Moved v v2 w.heap.size := fun k hk => by
  rcases m2 k hk with h | h
  · exact m1 k h
  · exact .inr (by omega)
theorem tok_kept {w w' : World} {b tb base : Nat} {v : Value} {acc : List UInt8} {cur : Array Value} (h : BI w b base v acc) (hb : Bu b v.ownBlock w.heap.size w w') (hT : w.heap[tb]? = some (.cells cur 9 (0, 0))) : w'.heap[tb]? = some (.cells cur 9 (0, 0)) := by
  have hlt := (Array.getElem?_eq_some_iff.1 hT).1
  rw [hb.block tb hlt ?_ ?_]
  · exact hT
  · rintro rfl
    obtain ⟨p, _, h1⟩ := h.at_
    rw [hT] at h1
    injection h1 with h1
    injection h1 with _ h1
    exact absurd h1 (by decide)
  · intro e
    rcases h.row.2 with ⟨hv, _⟩ | ⟨g, cp, c, hv, hg, hh, _⟩
    · rw [hv] at e; cases e
    · rw [hv] at e
      cases e
      rw [hT] at hh
      injection hh with hh
      injection hh with _ hh
      exact absurd hh (by decide)
set_option maxHeartbeats 2000000 in
theorem writeLine_any (b base : Nat) (v : Value) (acc : List UInt8) (tb c : Nat) (cur : Array Value) (ts : List (List UInt8)) (w : World) (h : BI w b base v acc) (hb : base ≤ w.heap.size) (hT : w.heap[tb]? = some (.cells cur 9 (0, 0))) (hc : ∀ i, i < ts.length → cur[i]? = some (.string (textOf (ts.getD i [])))) (hn : ∀ k, k ≤ ts.length → acc.length + (jn ts k).length + 1 ≤ 140737488355328) (hl : ts.length ≤ 1000000000000) :
    Calls Tryz.prog 18 #[.pointer (some ⟨b, 0, none⟩), .slice (some ⟨tb, 0, none⟩) ts.length c] w fun e w' => e = .returned (.tuple #[]) ∧ ∃ v', BI w' b base v' (acc ++ (jn ts ts.length ++ [10])) ∧ Bu b v.ownBlock w.heap.size w w' ∧ Moved v v' w.heap.size := by
  obtain ⟨n, hnn⟩ : ∃ n, n = ts.length := ⟨_, rfl⟩
  rw [← hnn] at hc hn hl ⊢
  clear hnn
  have HC := Lib.hid hc
  have HN := Lib.hid hn
  have HI := Lib.hid h
  have HT := Lib.hid hT
  clear hc hn h hT
  go_enter Tryz.func18, Tryz.ntmps18
  go_wp2_with fail
  go_loopw [4, 5, 8] (fun x y i wr => ∃ (k : Nat) (v1 : Value), k ≤ n ∧ i = .int .i64 (k : Nat) ∧ BI wr b base v1 (acc ++ jn ts k) ∧ Bu b v.ownBlock w.heap.size w wr ∧ Moved v v1 w.heap.size) (fun _ _ i _ => n - (intOf i).toNat)
  case atStart => exact ⟨0, v, Nat.zero_le _, rfl, by simpa [jn] using HI.out, Bu.refl _ _ _ _, fun i hi => .inl hi⟩
  case round =>
    obtain ⟨k, v1, hk, rfl, hI1, hB1, hM1⟩ := hrel
    by_cases hlt : k < n
    · have hTw := tok_kept HI.out hB1 HT.out
      have hcell : wr.cell? ⟨tb, k, none⟩ = some (.string (textOf (ts.getD k []))) := by rw [cell_of_block hTw]; exact HC.out k hlt
      have hnk := HN.out (k + 1) (by omega)
      rw [jn_succ] at hnk
      have HJ := Lib.hid (jn_succ ts k)
      have hbw : base ≤ wr.heap.size := Nat.le_trans hb hB1.size
      have hzt : (textOf (ts.getD k [])).size = (ts.getD k []).length := by simp [textOf, ByteArray.size]
      have HTL : Hid (tl (textOf (ts.getD k [])) = ts.getD k []) := Lib.hid (by simp [tl, textOf])
      obtain ⟨x, hx⟩ : ∃ x, x = textOf (ts.getD k []) := ⟨_, rfl⟩
      rw [← hx] at hcell HTL hzt
      by_cases h0 : 0 < k
      · rw [if_pos h0] at hnk HJ
        simp only [List.length_append, List.length_cons, List.length_nil] at hnk
        have hW := writeByte_any b base v1 (acc ++ jn ts k) 32 wr hI1 hbw (by rw [List.length_append]; omega)
        have HB1 := Lib.hid hB1
        have HM1 := Lib.hid hM1
        have HX := Lib.hid hx
        have HZ := Lib.hid hzt
        have d0 : decide ((0 : Int) < (k : Int)) = true := decide_eq_true (by omega)
        clear hI1 hB1 hM1 hTw hx hzt
        go_wp2_with fail
        refine hW.mono ?_
        rintro e w2 ⟨rfl, v2, hI2, hB2, hM2⟩
        have hB2' := HB1.out.more HM1.out hB2
        have hM2' := HM1.out.more hM2 HB1.out.size
        have hbw2 : base ≤ w2.heap.size := Nat.le_trans hb hB2'.size
        have hW2 := writeString_any b base v2 _ x w2 hI2 hbw2 (by rw [List.length_append, List.length_append, HZ.out]; simp only [List.length_cons, List.length_nil]; omega)
        have HB2 := Lib.hid hB2'
        have HM2 := Lib.hid hM2'
        clear hW hI2 hB2 hM2 hB2' hM2'
        go_wp2_with fail
        refine hW2.mono ?_
        rintro e w3 ⟨rfl, v3, hI3, hB3, hM3⟩
        clear hW2
        go_wp2_with fail
        go_roundw
        case rel =>
          refine ⟨k + 1, v3, by omega, by go_num, ?_, HB2.out.more HM2.out hB3, HM2.out.more hM3 HB2.out.size⟩
          rw [HJ.out]
          rw [HTL.out] at hI3
          simpa [List.append_assoc] using hI3
        case measure => simp only [intOf]; omega
      · obtain rfl : k = 0 := by omega
        rw [if_neg h0] at hnk HJ
        simp only [List.length_append, List.nil_append] at hnk
        have hW2 := writeString_any b base v1 _ x wr hI1 hbw (by rw [List.length_append, hzt]; omega)
        have HB1 := Lib.hid hB1
        have HM1 := Lib.hid hM1
        have HX := Lib.hid hx
        clear hI1 hB1 hM1 hTw hx hzt
        go_wp2_with fail
        refine hW2.mono ?_
        rintro e w3 ⟨rfl, v3, hI3, hB3, hM3⟩
        clear hW2
        go_wp2_with fail
        go_roundw
        case rel =>
          refine ⟨1, v3, by omega, by go_num, ?_, HB1.out.more HM1.out hB3, HM1.out.more hM3 HB1.out.size⟩
          rw [HJ.out]
          rw [HTL.out] at hI3
          simpa [List.append_assoc] using hI3
        case measure => simp only [intOf]; omega
    · obtain rfl : k = n := by omega
      have hnk := HN.out k (Nat.le_refl _)
      have hbw : base ≤ wr.heap.size := Nat.le_trans hb hB1.size
      have hW := writeByte_any b base v1 (acc ++ jn ts k) 10 wr hI1 hbw (by rw [List.length_append]; omega)
      have HB1 := Lib.hid hB1
      have HM1 := Lib.hid hM1
      clear hI1 hB1 hM1
      go_wp2_with fail
      refine hW.mono ?_
      rintro e w2 ⟨rfl, v2, hI2, hB2, hM2⟩
      clear hW
      go_wp2_with fail
      go_end0
      exact ⟨rfl, v2, by simpa [List.append_assoc] using hI2, HB1.out.more HM1.out hB2, HM1.out.more hM2 HB1.out.size⟩
end Go.Proofs.YtonbfcpbgkpbaaaGreatDoor
end
section
/- Recipes: texts whose tokens are known, put together: the mathematics. -/
namespace Go.Proofs.YtonbfcpbgkpbaaaGreatDoor
set_option linter.unusedVariables false
set_option linter.unusedSimpArgs false
abbrev KS := Nat × List UInt8
def ksOf (ts : List Tok) : List KS := ts.map fun t => (t.k, t.s)
/-- Blanks and whole remarks. -/
def BlkS (b : List UInt8) : Prop := ∀ x, skipN false (b ++ x) = b.length + skipN false x
theorem blk_nil : BlkS [] := fun x => by simp
theorem blk_one {c : UInt8} (h : blnkB c = true) : BlkS [c] := fun x => by
  show skipN false (c :: x) = _
  rw [skipN, if_neg (by simp), if_pos h]
  rfl
theorem blk_app {a b : List UInt8} (ha : BlkS a) (hb : BlkS b) : BlkS (a ++ b) := fun x => by
  rw [List.append_assoc, ha, hb, List.length_append]
  omega
theorem skip_rem {l : List UInt8} (h : ∀ x ∈ l, x.toNat ≠ 10) : ∀ x, skipN true (l ++ x) = l.length + skipN true x := by
  induction l with
  | nil => intro x; simp
  | cons c l ih =>
    intro x
    show skipN true (c :: (l ++ x)) = _
    rw [skipN, if_pos rfl, if_neg (h c (by simp)), ih (fun y hy => h y (by simp [hy]))]
    rw [List.length_cons]
    omega
/-- A remark up to its line's end. -/
theorem blk_rem {l : List UInt8} (h : ∀ x ∈ l, x.toNat ≠ 10) : BlkS (35 :: l ++ [10]) := fun x => by
  show skipN false (35 :: (l ++ [10] ++ x)) = _
  rw [skipN, if_neg (by simp), if_neg (by decide), if_pos (by decide), List.append_assoc, skip_rem h]
  show 1 + (l.length + skipN true (10 :: x)) = _
  rw [skipN, if_pos rfl, if_pos (by decide)]
  simp
  omega
/-- A text that is blanks, and perhaps a remark without an end. -/
def BlkEnd (b : List UInt8) : Prop := skipN false b = b.length
/-- A text and its tokens. -/
inductive Txt : List UInt8 → List KS → Prop
  | fin (b : List UInt8) : BlkEnd b → Txt b []
  | tok (b tok : List UInt8) (r : List UInt8) (k : Nat) (s : List UInt8) (ts : List KS) : BlkS b → k ≤ 5 → (∃ c l, tok = c :: l ∧ blnkB c = false ∧ c.toNat ≠ 35) → tokL (tok ++ r) = (k, tok.length, s) → Txt r ts → Txt (b ++ (tok ++ r)) ((k, s) :: ts)
theorem Txt.blk {b r : List UInt8} {ts : List KS} (hb : BlkS b) (h : Txt r ts) : Txt (b ++ r) ts := by
  cases h with
  | fin _ h => exact .fin _ (by unfold BlkEnd at *; rw [hb, h, List.length_append])
  | tok b' tok r k s ts h1 h2 h3 h4 h5 =>
    rw [← List.append_assoc]
    exact .tok _ _ _ _ _ _ (blk_app hb h1) h2 h3 h4 h5
theorem strm_txt : ∀ (ts : List KS) (l : List UInt8), Txt l ts → ∀ f p, ts.length < f → ksOf (strm f l p) = ts ++ [(8, [])]
  | [], l, h, f, p, hf => by
    cases h with
    | fin _ h =>
      cases f with
      | zero => simp at hf
      | succ f =>
        rw [strm]
        have : l.drop (skipN false l) = [] := by rw [show skipN false l = l.length from h]; exact List.drop_length
        simp only [this]
        rfl
  | (k, s) :: ts, l, h, f, p, hf => by
    cases h with
    | tok b tok r _ _ _ h1 h2 h3 h4 h5 =>
      cases f with
      | zero => simp at hf
      | succ f =>
        obtain ⟨c, l', rfl, hc1, hc2⟩ := h3
        have e0 : skipN false (b ++ (c :: l' ++ r)) = b.length := by
          rw [h1]
          show b.length + skipN false (c :: (l' ++ r)) = _
          rw [skipN, if_neg (by simp), if_neg (by rw [hc1]; simp), if_neg hc2]
          rfl
        rw [strm]
        simp only [e0, List.drop_left, h4]
        rw [if_pos h2]
        have e1 : (b ++ (c :: l' ++ r)).drop (b.length + (c :: l').length) = r := by
          rw [← List.drop_drop, List.drop_left, List.drop_left]
        rw [e1]
        show (k, s) :: ksOf _ = _
        rw [strm_txt ts r h5 f _ (by simp at hf; omega)]
        rfl
theorem Txt.len {l : List UInt8} {ts : List KS} (h : Txt l ts) : ts.length ≤ l.length := by
  induction h with
  | fin _ _ => simp
  | tok b tok r k s ts h1 h2 h3 h4 h5 ih =>
    obtain ⟨c, l', rfl, _⟩ := h3
    simp only [List.length_cons, List.length_append]
    omega
/-- A piece of text that stands for some tokens, whatever follows. -/
def Chunk (x : List UInt8) (ts : List KS) : Prop := ∀ r rs, Txt r rs → Txt (x ++ r) (ts ++ rs)
theorem chunk_nil : Chunk [] [] := fun r rs h => h
theorem Chunk.app {x y : List UInt8} {xs ys : List KS} (h : Chunk x xs) (k : Chunk y ys) : Chunk (x ++ y) (xs ++ ys) := fun r rs hr => by
  rw [List.append_assoc, List.append_assoc]
  exact h _ _ (k _ _ hr)
theorem chunk_blk {b : List UInt8} (h : BlkS b) : Chunk b [] := fun r rs hr => hr.blk h
/-- What stands behind a token: blanks, the first of which is a blank itself. -/
def Gap (w : List UInt8) : Prop := BlkS w ∧ ∃ c l, w = c :: l ∧ blnkB c = true
theorem chunk_tok {tok w : List UInt8} {k : Nat} {s : List UInt8} (h : TkOk tok k s) (hw : Gap w) : Chunk (tok ++ w) [(k, s)] := fun r rs hr => by
  obtain ⟨hb, c, l, rfl, hc⟩ := hw
  have h2 := hr.blk hb
  rw [List.append_assoc]
  refine .tok [] tok _ k s rs blk_nil h.kind h.head ?_ h2
  exact h.tok_ c (l ++ r) hc
theorem gap_sp : Gap [32] := ⟨blk_one (by decide), _, _, rfl, by decide⟩
theorem gap_nl : Gap [10] := ⟨blk_one (by decide), _, _, rfl, by decide⟩
/-- Tokens joined by spaces. -/
theorem chunk_join (ts : List (List UInt8)) (ks : List KS) (hl : ks.length = ts.length) (h : ∀ i, i < ts.length → TkOk (ts.getD i []) (ks.getD i (0, [])).1 (ks.getD i (0, [])).2) :
    ∀ k, k ≤ ts.length → ∀ w, (0 < k → Gap w) → (k = 0 → w = []) → Chunk (jn ts k ++ w) (ks.take k)
  | 0, _, w, _, hw => by
    rw [hw rfl]
    exact chunk_nil
  | k + 1, hk, w, hw, _ => by
    have hg := hw (by omega)
    have ht := h k (by omega)
    have e : ks.take (k + 1) = ks.take k ++ [((ks.getD k (0, [])).1, (ks.getD k (0, [])).2)] := by
      have hk2 : k < ks.length := by omega
      have e2 : ks.getD k (0, []) = ks[k] := by simp [List.getD, List.getElem?_eq_getElem hk2]
      rw [List.take_add_one, List.getElem?_eq_getElem hk2, e2]
      rfl
    rw [e, jn_succ]
    by_cases h0 : 0 < k
    · rw [if_pos h0]
      rw [show jn ts k ++ ([32] ++ ts.getD k []) ++ w = (jn ts k ++ [32]) ++ (ts.getD k [] ++ w) by simp]
      exact (chunk_join ts ks hl h k (by omega) [32] (fun _ => gap_sp) (fun e => by omega)).app (chunk_tok ht hg)
    · have : k = 0 := by omega
      subst this
      rw [if_neg h0]
      exact (chunk_nil).app (chunk_tok ht hg)
end Go.Proofs.YtonbfcpbgkpbaaaGreatDoor
end
section
/- recipe.areRunes of any list: its contract. -/
namespace Go.Proofs.YtonbfcpbgkpbaaaGreatDoor
open Go.RowKit Go.Sort Go.Joins
set_option linter.unusedVariables false
set_option linter.unusedSimpArgs false
set_option maxRecDepth 100000
/-- A scalar value? -/
def scalZ (n : Int) : Bool := decide (0 ≤ n) && (decide (n ≤ 55295) || (decide (57344 ≤ n) && decide (n ≤ 1114111)))
theorem scalZ_any (n : Int) (w : World) : Calls Tryz.prog 36 #[.int .i32 n] w fun e w' => e = .returned (.bool (scalZ n)) ∧ w' = w := by
  by_cases h0 : 0 ≤ n
  · have h := scalar_any n h0 w
    unfold scalZ
    rw [decide_eq_true h0, Bool.true_and]
    exact h
  · have d0 : decide (0 ≤ n) = false := decide_eq_false h0
    have d1 : decide (57344 ≤ n) = false := decide_eq_false (by omega)
    unfold scalZ
    rw [d0, Bool.false_and]
    clear h0
    go_enter Tryz.func36, Tryz.ntmps36
    go_wp2_with fail
    go_ret
    exact ⟨rfl, rfl⟩
def spOk (x : Sp) : Bool := scalZ x.lo && scalZ x.hi
theorem SPS.cellsAt {w : World} {a : Option Addr} {l : List Sp} (h : SPS w a l) {k : Nat} (hk : k < l.length) : ∃ b off, a = some ⟨b, off, none⟩ ∧ w.cell? ⟨b, off + k * 2, none⟩ = some (.int .i32 l[k].lo) ∧ w.cell? ⟨b, off + k * 2 + 1, none⟩ = some (.int .i32 l[k].hi) := by
  rcases h with h | ⟨b, off, ha, hc⟩
  · rw [h] at hk; simp at hk
  · exact ⟨b, off, ha, hc k l[k] (List.getElem?_eq_getElem hk)⟩
theorem all_take {α : Type} (p : α → Bool) (l : List α) (k : Nat) (hk : k < l.length) : (l.take (k + 1)).all p = ((l.take k).all p && p l[k]) := by
  rw [List.take_add_one, List.getElem?_eq_getElem hk, Option.toList_some, List.all_append]
  simp
theorem all_cut {α : Type} (p : α → Bool) (l : List α) (k : Nat) (h : (l.take k).all p = false) : l.all p = false := by
  rw [← List.take_append_drop k l, List.all_append, h, Bool.false_and]
set_option maxHeartbeats 2000000 in
theorem runes_any (a : Option Addr) (c : Nat) (l : List Sp) (w : World) (h : SPS w a l) (hn : l.length ≤ 4611686018427387904) :
    Calls Tryz.prog 17 #[.slice a l.length c] w fun e w' => e = .returned (.bool (l.all spOk)) ∧ Below w.heap.size w w' := by
  have HS := Lib.hid h
  obtain ⟨n, hl⟩ : ∃ n, n = l.length := ⟨_, rfl⟩
  have HL := Lib.hid hl
  rw [← hl] at hn ⊢
  clear h hl
  go_enter Tryz.func17, Tryz.ntmps17
  go_wp2_with fail
  go_loopw [4, 7] (fun x i wr => ∃ k : Nat, k ≤ n ∧ i = .int .i64 (k : Nat) ∧ (l.take k).all spOk = true ∧ Below w.heap.size w wr) (fun _ i _ => n - (intOf i).toNat)
  case atStart => exact ⟨0, Nat.zero_le _, rfl, by simp, Below.refl _ _⟩
  case round =>
    obtain ⟨k, hk, rfl, hall, hb⟩ := hrel
    by_cases hlt : k < n
    · have hkl : k < l.length := by have := HL.out; omega
      obtain ⟨b, off, rfl, c0, c1⟩ := (HS.out.below hb).cellsAt hkl
      have HA := Lib.hid (all_take spOk l k hkl)
      have HCUT := Lib.hid (all_cut spOk l (k + 1))
      obtain ⟨x, hx⟩ : ∃ x, x = l[k] := ⟨_, rfl⟩
      rw [← hx] at c0 c1 HA
      have HALL := Lib.hid hall
      have bx := box_below wr (.cells #[.int .i32 x.lo, .int .i32 x.hi] 41)
      have HB := Lib.hid (hb.trans (bx.mono hb.size))
      clear hall hb hx bx
      have h1 := fun wx => scalZ_any x.lo wx
      have h2 := fun wx => scalZ_any x.hi wx
      cases e1 : scalZ x.lo with
      | false =>
        rw [e1] at h1
        have hf : l.all spOk = false := HCUT.out (by rw [HA.out, HALL.out]; simp [spOk, e1])
        have HF := Lib.hid hf
        clear e1 hf
        go_wp2_with fail
        refine (h1 _).mono ?_
        rintro e w' ⟨rfl, hw⟩
        rw [hw]
        go_wp2_with fail
        go_ret
        exact ⟨by rw [HF.out]; rfl, HB.out⟩
      | true =>
        rw [e1] at h1
        cases e2 : scalZ x.hi with
        | false =>
          rw [e2] at h2
          have hf : l.all spOk = false := HCUT.out (by rw [HA.out, HALL.out]; simp [spOk, e2])
          have HF := Lib.hid hf
          clear e1 e2 hf
          go_wp2_with fail
          refine (h1 _).mono ?_
          rintro e w' ⟨rfl, hw⟩
          rw [hw]
          clear hw w'
          go_wp2_with fail
          refine (h2 _).mono ?_
          rintro e w' ⟨rfl, hw⟩
          rw [hw]
          go_wp2_with fail
          go_ret
          exact ⟨by rw [HF.out]; rfl, HB.out⟩
        | true =>
          rw [e2] at h2
          have HX := Lib.hid (show spOk x = true by simp [spOk, e1, e2])
          clear e1 e2
          go_wp2_with fail
          refine (h1 _).mono ?_
          rintro e w' ⟨rfl, hw⟩
          rw [hw]
          clear hw w'
          go_wp2_with fail
          refine (h2 _).mono ?_
          rintro e w' ⟨rfl, hw⟩
          rw [hw]
          clear hw w'
          go_wp2_with fail
          go_roundw
          case rel => exact ⟨k + 1, by omega, by go_num, by rw [HA.out, HALL.out, HX.out]; rfl, HB.out⟩
          case measure => simp only [intOf]; omega
    · obtain rfl : k = n := by omega
      have hf : l.all spOk = true := by
        have := HL.out
        rwa [List.take_of_length_le (by omega)] at hall
      have HF := Lib.hid hf
      have HB := Lib.hid hb
      clear hall hf hb
      go_wp2_with fail
      go_ret
      exact ⟨by rw [HF.out]; rfl, HB.out⟩
end Go.Proofs.YtonbfcpbgkpbaaaGreatDoor
end
section
/- recipe.class of any list of scalar values: its contract. -/
namespace Go.Proofs.YtonbfcpbgkpbaaaGreatDoor
open Go.RowKit Go.Sort Go.Joins
set_option linter.unusedVariables false
set_option linter.unusedSimpArgs false
set_option maxRecDepth 100000
/-- The tokens of a span. -/
def spT (x : Sp) : List (List UInt8) := if x.hi = x.lo then [runeTok x.lo.toNat] else [runeTok x.lo.toNat, [46, 46], runeTok x.hi.toNat]
theorem spT_len (x : Sp) : (spT x).length ≤ 3 := by unfold spT; split <;> simp
/-- The tokens of a class's line. -/
def clsT (nm : List UInt8) (l : List Sp) : List (List UInt8) := [nm, [123]] ++ l.flatMap spT ++ [[125]]
theorem flatT_len (l : List Sp) : (l.flatMap spT).length ≤ 3 * l.length := by
  induction l with
  | nil => simp
  | cons x l ih => rw [List.flatMap_cons, List.length_append, List.length_cons]; have := spT_len x; omega
theorem scalZ_nat {n : Int} (h : scalZ n = true) : ∃ m : Nat, n = (m : Int) ∧ m ≤ 1114111 ∧ n.toNat = m := by
  unfold scalZ at h
  simp at h
  exact ⟨n.toNat, by omega, by omega, rfl⟩
theorem toks_step (W : World) (base : Nat) (v : Value) (l xs : List (List UInt8)) (h : OwnG 9 1 encS1 W base v l) (hb : base ≤ W.heap.size) (hn : l.length + xs.length ≤ 1000000000000) :
    ∃ v' w2, (Builtin.append_ #[22, 22] 22 #[v, .slice (some ⟨W.heap.size, 0, none⟩) xs.length xs.length]).run Tryz.prog (W.alloc (.cells (xs.flatMap encS1).toArray 9)) = .ok v' w2 ∧ OwnG 9 1 encS1 w2 base v' (l ++ xs) ∧ Below base W w2 ∧ ∀ j, j < W.heap.size → v.ownBlock ≠ some j → w2.heap[j]? = W.heap[j]? := by
  obtain ⟨i0, hi, hz0, hz1, hz2⟩ := info_parts infoStr
  have hbx := box_below W (.cells (xs.flatMap encS1).toArray 9)
  have hown : OwnG 9 1 encS1 (W.alloc (.cells (xs.flatMap encS1).toArray 9)) base v l := h.below hbx (Nat.le_refl _)
  have hx := heap_alloc_new W (.cells (xs.flatMap encS1).toArray 9)
  have hlx : (xs.flatMap encS1).length = xs.length * 1 := flat_length (enc := encS1) (k := 1) (fun _ => rfl) xs
  obtain ⟨v', w2, h1, h2, h3, _⟩ := run_append_own (P := Tryz.prog) (W.alloc (.cells (xs.flatMap encS1).toArray 9)) base 22 22 9 i0 _ 1 16 Tryz.underlying22 hi hz0 hz1 hz2 rfl (by decide) v l.length (l.flatMap encS1) hown ⟨W.heap.size, 0, none⟩ xs.length xs.length (xs.flatMap encS1) hlx (fun j u hu => by
    rw [cell_add, Nat.zero_add, cell_of_block hx]
    simpa using hu) (fun u hu => by
    rw [flat_one] at hu
    obtain ⟨y, _, rfl⟩ := List.mem_map.1 hu
    rfl) (by unfold maxLen; omega) (by omega) (by rw [World.size_alloc]; omega)
  refine ⟨v', w2, h1, ?_, ?_, fun j hj hne => ?_⟩
  · unfold OwnG
    rw [List.length_append, List.flatMap_append]
    exact h2
  · exact (hbx.mono hb).grown h3 (by rw [World.size_alloc]; omega) (fun k hk => (h.block hk).1)
  · rw [h3.block j (by rw [World.size_alloc]; omega) (fun e => hne e.symm)]
    exact hbx.block j hj
set_option maxHeartbeats 4000000 in
theorem class_any (nm : List UInt8) (a : Option Addr) (c : Nat) (l : List Sp) (w : World) (h : SPS w a l) (hn : l.length ≤ 100000000000) (hok : l.all spOk = true) :
    Calls Tryz.prog 20 #[.string (textOf nm), .slice a l.length c] w fun e w' => ∃ v, e = .returned v ∧ OwnG 9 1 encS1 w' w.heap.size v (clsT nm l) ∧ Below w.heap.size w w' := by
  have HS := Lib.hid h
  obtain ⟨n, hl⟩ : ∃ n, n = l.length := ⟨_, rfl⟩
  have HL := Lib.hid hl
  have HOK := Lib.hid hok
  rw [← hl] at hn ⊢
  have hO0 : OwnG 9 1 encS1 (w.alloc (.cells #[.string (textOf nm), .string ⟨#[123]⟩] 9)) w.heap.size (.slice (some ⟨w.heap.size, 0, none⟩) 2 2) [nm, [123]] :=
    ⟨rfl, .inr ⟨w.heap.size, 2, _, rfl, Nat.le_refl _, heap_alloc_new w _, Nat.le_refl _, by decide, rfl, rfl⟩⟩
  have hb0 := box_below w (.cells #[.string (textOf nm), .string ⟨#[123]⟩] 9)
  obtain ⟨x0, hx0⟩ : ∃ x, x = textOf nm := ⟨_, rfl⟩
  rw [← hx0] at hO0 hb0 ⊢
  obtain ⟨X, hX⟩ : ∃ X, X = w.alloc (.cells #[.string x0, .string ⟨#[123]⟩] 9) := ⟨_, rfl⟩
  rw [← hX] at hO0 hb0
  have HX := Lib.hid hX
  have HO0 := Lib.hid hO0
  have HB0 := Lib.hid hb0
  clear h hl hok hX hx0 hO0 hb0
  go_enter Tryz.func20, Tryz.ntmps20
  go_wp2_with fail
  rw [← HX.out]
  clear HX
  go_loopw [5, 7, 12] (fun v y i wr => ∃ k : Nat, k ≤ n ∧ i = .int .i64 (k : Nat) ∧ OwnG 9 1 encS1 wr w.heap.size v ([nm, [123]] ++ (l.take k).flatMap spT) ∧ Below w.heap.size w wr) (fun _ _ i _ => n - (intOf i).toNat)
  case atStart => exact ⟨0, Nat.zero_le _, rfl, by simpa using HO0.out, HB0.out⟩
  case round =>
    obtain ⟨k, hk, rfl, hO, hb⟩ := hrel
    by_cases hlt : k < n
    · have hkl : k < l.length := by have := HL.out; omega
      have hox : spOk l[k] = true := List.all_eq_true.1 HOK.out _ (List.getElem_mem hkl)
      have htk : (l.take (k + 1)).flatMap spT = (l.take k).flatMap spT ++ spT l[k] := by rw [List.take_add_one, List.getElem?_eq_getElem hkl, Option.toList_some, List.flatMap_append]; simp
      have hlen := flatT_len (l.take k)
      rw [List.length_take] at hlen
      obtain ⟨b, off, rfl, c0, c1⟩ := (HS.out.below hb).cellsAt hkl
      obtain ⟨x, hx⟩ : ∃ x, x = l[k] := ⟨_, rfl⟩
      rw [← hx] at c0 c1 hox htk
      unfold spOk at hox
      rw [Bool.and_eq_true] at hox
      obtain ⟨lo, e0, hlo, f0⟩ := scalZ_nat hox.1
      obtain ⟨hi, e1, hhi, f1⟩ := scalZ_nat hox.2
      rw [e0] at c0
      rw [e1] at c1
      have hsp : spT x = if hi = lo then [runeTok lo] else [runeTok lo, [46, 46], runeTok hi] := by
        unfold spT
        rw [f0, f1, e0, e1]
        by_cases h : hi = lo
        · rw [if_pos h, if_pos (by omega)]
        · rw [if_neg h, if_neg (by omega)]
      have HT := Lib.hid htk
      have HSP := Lib.hid hsp
      have bx := box_below wr (.cells #[.int .i32 (lo : Nat), .int .i32 (hi : Nat)] 41)
      have hz := heap_alloc_new wr (.cells #[.int .i32 (lo : Nat), .int .i32 (hi : Nat)] 41)
      have hO1 := hO.below bx (Nat.le_refl _)
      have hb1 := hb.trans (bx.mono hb.size)
      have hne : u5.ownBlock ≠ some wr.heap.size := fun e => by have := (hO.block e).2.1; omega
      clear hx hox f0 f1 e0 e1 htk hsp
      go_upto_region 5 with fail
      obtain ⟨W1, hW1⟩ : ∃ W1, W1 = wr.alloc (.cells #[.int .i32 (lo : Nat), .int .i32 (hi : Nat)] 41) := ⟨_, rfl⟩
      have hs1 : W1.heap.size = wr.heap.size + 1 := by rw [hW1]; simp
      rw [← hW1] at hz hO1 hb1 ⊢
      clear bx hW1
      obtain ⟨v1, w2, hr, hO2, hb2, hk2⟩ := toks_step W1 w.heap.size u5 _ [runeTok lo] hO1 (by have := hb1.size; omega) (by simp only [List.length_append, List.length_cons, List.length_nil]; omega)
      obtain ⟨z, hzz⟩ : ∃ z, z = wr.heap.size := ⟨_, rfl⟩
      rw [← hzz] at hz hne hs1 ⊢
      have hz2 := (hk2 z (by omega) hne).trans hz
      have z0 : W1.cell? ⟨z, 0, none⟩ = some (.int .i32 (lo : Nat)) := by rw [cell_of_block hz]; rfl
      have z1 : W1.cell? ⟨z, 1, none⟩ = some (.int .i32 (hi : Nat)) := by rw [cell_of_block hz]; rfl
      have y0 : w2.cell? ⟨z, 0, none⟩ = some (.int .i32 (lo : Nat)) := by rw [cell_of_block hz2]; rfl
      have y1 : w2.cell? ⟨z, 1, none⟩ = some (.int .i32 (hi : Nat)) := by rw [cell_of_block hz2]; rfl
      have hT1 := runeToken_any lo hlo W1
      have hB2 := hb1.trans (hb2.mono (Nat.le_refl _))
      obtain ⟨tx, htx⟩ : ∃ tx, tx = textOf (runeTok lo) := ⟨_, rfl⟩
      simp only [List.length_cons, List.length_nil, List.flatMap_cons, List.flatMap_nil, encS1, List.append_nil, Nat.zero_add] at hr
      rw [← htx] at hT1 hr
      obtain ⟨av, nv, cv, rfl⟩ : ∃ av nv cv, v1 = .slice av nv cv := by
        obtain ⟨p, q, e⟩ := hO2.slice
        exact ⟨p, _, q, e⟩
      have HO2 := Lib.hid hO2
      have HB2 := Lib.hid hB2
      have HZ2 := Lib.hid hz2
      clear hO1 hb1 hO hb hz hne hk2 hb2 hO2 hB2 hz2 htx hzz hs1
      go_wp2_with fail
      refine hT1.mono ?_
      rintro e w' ⟨rfl, hw⟩
      rw [hw]
      clear hw w' hT1
      by_cases heq : hi = lo
      · have d0 : (((hi : Nat) : Int) != ((lo : Nat) : Int)) = false := by simp; omega
        go_wp2_with (at_builtin; refine wpList_append_run rfl (.tmp 16) (.tmp 20) 22 22 rfl _ _ rfl rfl _ w2 hr ?_; clear hr)
        go_roundw
        case rel =>
          refine ⟨k + 1, by omega, by go_num, ?_, HB2.out⟩
          rw [HT.out, HSP.out, if_pos heq]
          have := HO2.out
          rwa [List.append_assoc] at this
        case measure => simp only [intOf]; omega
      · have d0 : (((hi : Nat) : Int) != ((lo : Nat) : Int)) = true := by simp; omega
        have hT2 := runeToken_any hi hhi w2
        obtain ⟨v3, w4, hr2, hO4, hb4, hk4⟩ := toks_step w2 w.heap.size (.slice av nv cv) _ [[46, 46], runeTok hi] HO2.out (by have := HB2.out.size; omega) (by simp only [List.length_append, List.length_cons, List.length_nil]; omega)
        obtain ⟨ty, hty⟩ : ∃ ty, ty = textOf (runeTok hi) := ⟨_, rfl⟩
        simp only [List.length_cons, List.length_nil, List.flatMap_cons, List.flatMap_nil, encS1, List.append_nil, Nat.zero_add, List.cons_append, List.nil_append] at hr2
        rw [← hty] at hT2 hr2
        have HO4 := Lib.hid hO4
        have HB4 := Lib.hid (HB2.out.trans hb4)
        clear hO4 hb4 hk4 hty
        go_wp2_with (at_builtin; refine wpList_append_run rfl (.tmp 16) (.tmp 20) 22 22 rfl _ _ rfl rfl _ w2 hr ?_; clear hr)
        refine hT2.mono ?_
        rintro e w' ⟨rfl, hw⟩
        rw [hw]
        clear hw w' hT2
        go_wp2_with (at_builtin; refine wpList_append_run rfl (.tmp 27) (.tmp 31) 22 22 rfl _ _ rfl rfl _ w4 hr2 ?_; clear hr2)
        go_roundw
        case rel =>
          refine ⟨k + 1, by omega, by go_num, ?_, HB4.out⟩
          rw [HT.out, HSP.out, if_neg heq]
          have := HO4.out
          simpa [List.append_assoc] using this
        case measure => simp only [intOf]; omega
    · obtain rfl : k = n := by omega
      have htk : l.take k = l := List.take_of_length_le (by have := HL.out; omega)
      rw [htk] at hO
      have hlen := flatT_len l
      obtain ⟨v1, w2, hr, hO2, hb2, hk2⟩ := toks_step wr w.heap.size u5 _ [[125]] hO hb.size (by have := HL.out; simp only [List.length_append, List.length_cons, List.length_nil]; omega)
      simp only [List.length_cons, List.length_nil, List.flatMap_cons, List.flatMap_nil, encS1, List.append_nil, Nat.zero_add] at hr
      obtain ⟨av, nv, cv, rfl⟩ : ∃ av nv cv, v1 = .slice av nv cv := by
        obtain ⟨p, q, e⟩ := hO2.slice
        exact ⟨p, _, q, e⟩
      have HO2 := Lib.hid hO2
      have HB2 := Lib.hid (hb.trans hb2)
      clear hO hb hO2 hb2 hk2 hlen htk
      go_wp2_with (at_builtin; refine wpList_append_run rfl (.tmp 34) (.tmp 35) 22 22 rfl _ _ rfl rfl _ w2 hr ?_; clear hr)
      go_ret
      exact ⟨_, rfl, HO2.out, HB2.out⟩
end Go.Proofs.YtonbfcpbgkpbaaaGreatDoor
end
section
/- Recipes: a list of rules as tokens, and what the parser makes of them: the mathematics. -/
namespace Go.Proofs.YtonbfcpbgkpbaaaGreatDoor
set_option linter.unusedVariables false
set_option linter.unusedSimpArgs false
/-- A rule: a merge of two words and a number, or a list of spans of one of three classes. -/
inductive Rul
  | m (a b v : List UInt8)
  | c (i : Nat) (l : List Sp)
def clsNm (i : Nat) : List UInt8 := if i = 0 then sLetters else if i = 1 then sNumbers else sSpaces
def spKs (x : Sp) : List KS := if x.hi = x.lo then [(3, runeTok x.lo.toNat)] else [(3, runeTok x.lo.toNat), (5, sTo), (3, runeTok x.hi.toNat)]
def rulKs : Rul → List KS
  | .m a b v => [(1, sMerge), (4, a), (5, sPlus), (4, b), (5, sEq), (2, v)]
  | .c i l => (1, clsNm i) :: (5, sOpen) :: (l.flatMap spKs ++ [(5, sShut)])
/-- What is gathered, of the merges the texts alone. -/
structure RX where
  M : List (List UInt8 × List UInt8 × List UInt8)
  A : List Sp
  B : List Sp
  C : List Sp
def wrX (x : Wr) : List UInt8 × List UInt8 × List UInt8 := (x.l.s, x.r.s, x.i.s)
def rxOf (d : RD) : RX := ⟨d.M.map wrX, d.A, d.B, d.C⟩
def rulX (d : RX) : Rul → RX
  | .m a b v => { d with M := d.M ++ [(a, b, v)] }
  | .c i l => if i = 0 then { d with A := d.A ++ l } else if i = 1 then { d with B := d.B ++ l } else { d with C := d.C ++ l }
theorem ks_cons {T : List Tok} {k : Nat} {s : List UInt8} {r : List KS} (h : ksOf T = (k, s) :: r) : ∃ t T', T = t :: T' ∧ t.k = k ∧ t.s = s ∧ ksOf T' = r := by
  cases T with
  | nil => cases h
  | cons t T' =>
    unfold ksOf at h
    rw [List.map_cons] at h
    injection h with h1 h2
    injection h1 with h3 h4
    exact ⟨t, T', rfl, h3, h4, h2⟩
theorem take_empty {T : List Tok} {t : Tok} {k : Nat} (h : t.k = k) : takeP (mEmpty k) (false, t :: T) = (t, (false, T)) := by
  unfold takeP mEmpty
  simp [h]
theorem take_sgn {T : List Tok} {t : Tok} {s : List UInt8} (h : t.k = 5) (hs : t.s = s) : takeP (sgn s) (false, t :: T) = (t, (false, T)) := by
  unfold takeP sgn mOf
  simp [h, hs]
theorem meet_sgn {T : List Tok} {t : Tok} {s : List UInt8} (h : t.k = 5) (hs : t.s = s) : meetP (sgn s) (false, t :: T) = true := by
  unfold meetP sgn mOf
  simp [h, hs]
theorem meet_no {T : List Tok} {t : Tok} {k : Nat} (h : t.k ≠ k) : meetP (mEmpty k) (false, t :: T) = false := by
  unfold meetP mEmpty
  simp [h]
theorem meet_yes {T : List Tok} {t : Tok} {k : Nat} (h : t.k = k) : meetP (mEmpty k) (false, t :: T) = true := by
  unfold meetP mEmpty
  simp [h]
theorem mergeP_ok {T : List Tok} {a b v : List UInt8} {r : List KS} (h : ksOf T = (4, a) :: (5, sPlus) :: (4, b) :: (5, sEq) :: (2, v) :: r) : ∃ x T', mergeP (false, T) = (x, (false, T')) ∧ wrX x = (a, b, v) ∧ ksOf T' = r := by
  obtain ⟨t1, T1, rfl, a1, b1, h1⟩ := ks_cons h
  obtain ⟨t2, T2, rfl, a2, b2, h2⟩ := ks_cons h1
  obtain ⟨t3, T3, rfl, a3, b3, h3⟩ := ks_cons h2
  obtain ⟨t4, T4, rfl, a4, b4, h4⟩ := ks_cons h3
  obtain ⟨t5, T5, rfl, a5, b5, h5⟩ := ks_cons h4
  refine ⟨⟨t1, t3, t5⟩, T5, ?_, ?_, h5⟩
  · unfold mergeP
    simp only [take_empty a1, take_sgn a2 b2, take_empty a3, take_sgn a4 b4, take_empty a5]
  · unfold wrX
    rw [← b1, ← b3, ← b5]
/-- A span whose ends are scalar values. -/
def SpFit (x : Sp) : Prop := (∃ n : Nat, x.lo = n ∧ n ≤ 1114111) ∧ ∃ n : Nat, x.hi = n ∧ n ≤ 1114111
theorem spanP_ok {T : List Tok} {x : Sp} {r : List KS} (hx : SpFit x) (hr : ∀ s r', r = (5, s) :: r' → s ≠ sTo) (h : ksOf T = spKs x ++ r) : ∃ T', spanP (false, T) = (x, (false, T')) ∧ ksOf T' = r ∧ ∃ t T2, T = t :: T2 ∧ t.k = 3 := by
  obtain ⟨⟨lo, hlo, hlo2⟩, ⟨hi, hhi, hhi2⟩⟩ := hx
  obtain ⟨xlo, xhi⟩ := x
  simp only at hlo hhi
  subst hlo
  subst hhi
  unfold spKs at h
  by_cases e : hi = lo
  · subst e
    simp only [if_true, List.cons_append, List.nil_append, Int.toNat_natCast] at h
    obtain ⟨t1, T1, rfl, a1, b1, h1⟩ := ks_cons h
    refine ⟨T1, ?_, h1, t1, T1, rfl, a1⟩
    have hm : meetP (sgn sTo) (false, T1) = false := by
      cases T1 with
      | nil => rfl
      | cons t T2 =>
        unfold meetP sgn mOf
        by_cases hk : t.k = 5
        · have := hr t.s (ksOf T2) (by rw [← h1]; unfold ksOf; rw [List.map_cons, hk])
          simp [hk, this]
        · simp [hk]
    unfold spanP
    simp only [take_empty a1, hm, b1, runeV_tok hlo2]
    rfl
  · have e2 : ¬ ((hi : Nat) : Int) = ((lo : Nat) : Int) := by omega
    simp only [e2, if_false, List.cons_append, List.nil_append, Int.toNat_natCast] at h
    obtain ⟨t1, T1, rfl, a1, b1, h1⟩ := ks_cons h
    obtain ⟨t2, T2, rfl, a2, b2, h2⟩ := ks_cons h1
    obtain ⟨t3, T3, rfl, a3, b3, h3⟩ := ks_cons h2
    refine ⟨T3, ?_, h3, t1, _, rfl, a1⟩
    unfold spanP
    simp only [take_empty a1, meet_sgn a2 b2, take_sgn a2 b2, take_empty a3, b1, b3, runeV_tok hlo2, runeV_tok hhi2]
    rfl
theorem spKs_head (l : List Sp) (r : List KS) : ∀ s r', l.flatMap spKs ++ (5, sShut) :: r = (5, s) :: r' → s ≠ sTo := by
  intro s r' h
  cases l with
  | nil =>
    injection h with h1 _
    injection h1 with _ h2
    rw [← h2]
    decide
  | cons x l =>
    rw [List.flatMap_cons] at h
    unfold spKs at h
    split at h
    · injection h with h1 _
      injection h1 with h2 _
      cases h2
    · injection h with h1 _
      injection h1 with h2 _
      cases h2
theorem spanF_ok : ∀ (l : List Sp) (f : Nat) (T : List Tok) (r : List KS), (∀ x ∈ l, SpFit x) → l.length < f → ksOf T = l.flatMap spKs ++ (5, sShut) :: r → ∃ T', spanF f (false, T) = (l, (false, T')) ∧ ksOf T' = (5, sShut) :: r
  | [], f, T, r, _, hf, h => by
    cases f with
    | zero => simp at hf
    | succ f =>
      obtain ⟨t, T', rfl, a, b, h1⟩ := ks_cons h
      exact ⟨t :: T', by rw [spanF, meet_no (by rw [a]; decide)]; rfl, h⟩
  | x :: l, f, T, r, hx, hf, h => by
    cases f with
    | zero => simp at hf
    | succ f =>
      rw [List.flatMap_cons, List.append_assoc] at h
      obtain ⟨T', h1, h2, t, T2, rfl, h3⟩ := spanP_ok (hx x (by simp)) (spKs_head l r) h
      obtain ⟨T3, h4, h5⟩ := spanF_ok l f T' r (fun y hy => hx y (by simp [hy])) (by simp at hf; omega) h2
      refine ⟨T3, ?_, h5⟩
      rw [spanF, meet_yes h3, if_pos rfl]
      simp only [h1, h4]
theorem flat_len (l : List Sp) : l.length ≤ (l.flatMap spKs).length := by
  induction l with
  | nil => simp
  | cons x l ih =>
    rw [List.flatMap_cons, List.length_append, List.length_cons]
    have : 1 ≤ (spKs x).length := by unfold spKs; split <;> simp
    omega
theorem spansP_ok {T : List Tok} {l : List Sp} {r : List KS} (hl : ∀ x ∈ l, SpFit x) (h : ksOf T = (5, sOpen) :: (l.flatMap spKs ++ [(5, sShut)]) ++ r) : ∃ T', spansP (false, T) = (l, (false, T')) ∧ ksOf T' = r := by
  rw [List.cons_append, List.append_assoc] at h
  obtain ⟨t1, T1, rfl, a1, b1, h1⟩ := ks_cons h
  have hlen : l.length < T1.length := by
    have := congrArg List.length h1
    unfold ksOf at this
    rw [List.length_map, List.length_append] at this
    have := flat_len l
    simp at *
    omega
  obtain ⟨T2, h2, h3⟩ := spanF_ok l T1.length T1 r hl hlen h1
  obtain ⟨t3, T3, rfl, a3, b3, h4⟩ := ks_cons h3
  refine ⟨T3, ?_, h4⟩
  unfold spansP
  simp only [take_sgn a1 b1, h2, take_sgn a3 b3]
def RulFit : Rul → Prop
  | .m _ _ _ => True
  | .c i l => i < 3 ∧ ∀ x ∈ l, SpFit x
theorem name_take {T : List Tok} {t : Tok} (h : t.k = 1) (hs : t.s = sMerge ∨ t.s = sLetters ∨ t.s = sNumbers ∨ t.s = sSpaces) : takeP nameM (false, t :: T) = (t, (false, T)) := by
  have hm : nameM t = true := by
    show (t.k == 1 && [sMerge, sLetters, sNumbers, sSpaces].contains t.s) = true
    rw [h]
    rcases hs with hs | hs | hs | hs <;> rw [hs] <;> decide
  show (if nameM t = true then _ else _) = _
  rw [if_pos hm]
theorem ruleP_ok {R : Rul} {T : List Tok} {d : RD} {r : List KS} (hR : RulFit R) (h : ksOf T = rulKs R ++ r) : ∃ d' T', ruleP (false, T) d = (d', (false, T')) ∧ rxOf d' = rulX (rxOf d) R ∧ ksOf T' = r ∧ headK (false, T) ≠ 8 := by
  cases R with
  | m a b v =>
    obtain ⟨t, T1, rfl, a1, b1, h1⟩ := ks_cons h
    obtain ⟨x, T2, h2, h3, h4⟩ := mergeP_ok h1
    refine ⟨{ d with M := d.M ++ [x] }, T2, ?_, ?_, h4, by show t.k ≠ 8; omega⟩
    · unfold ruleP
      simp only [name_take a1 (.inl b1), b1, h2]
      rfl
    · unfold rxOf rulX
      simp [h3]
  | c i l =>
    obtain ⟨hi, hl⟩ := hR
    obtain ⟨t, T1, rfl, a1, b1, h1⟩ := ks_cons h
    obtain ⟨T2, h2, h4⟩ := spansP_ok hl h1
    have hi3 : i = 0 ∨ i = 1 ∨ i = 2 := by omega
    rcases hi3 with rfl | rfl | rfl
    · have b1' : t.s = sLetters := b1
      refine ⟨{ d with A := d.A ++ l }, T2, ?_, rfl, h4, by show t.k ≠ 8; omega⟩
      unfold ruleP
      simp only [name_take a1 (.inr (.inl b1')), b1', h2]
      simp [sMerge, sLetters, sNumbers, sSpaces]
    · have b1' : t.s = sNumbers := b1
      refine ⟨{ d with B := d.B ++ l }, T2, ?_, rfl, h4, by show t.k ≠ 8; omega⟩
      unfold ruleP
      simp only [name_take a1 (.inr (.inr (.inl b1'))), b1', h2]
      simp [sMerge, sLetters, sNumbers, sSpaces]
    · have b1' : t.s = sSpaces := b1
      refine ⟨{ d with C := d.C ++ l }, T2, ?_, rfl, h4, by show t.k ≠ 8; omega⟩
      unfold ruleP
      simp only [name_take a1 (.inr (.inr (.inr b1'))), b1', h2]
      simp [sMerge, sLetters, sNumbers, sSpaces]
theorem rulesF_ok : ∀ (Rs : List Rul) (f : Nat) (T : List Tok) (d : RD), (∀ R ∈ Rs, RulFit R) → Rs.length < f → ksOf T = Rs.flatMap rulKs ++ [(8, [])] → ∃ d' T', rulesF f (false, T) d = (d', (false, T')) ∧ rxOf d' = Rs.foldl rulX (rxOf d)
  | [], f, T, d, _, hf, h => by
    obtain ⟨t, T', rfl, a, b, h1⟩ := ks_cons h
    cases f with
    | zero => simp at hf
    | succ f =>
      refine ⟨d, t :: T', ?_, rfl⟩
      rw [rulesF, if_neg (by show ¬(false = false ∧ t.k ≠ 8); rw [a]; simp)]
  | R :: Rs, f, T, d, hR, hf, h => by
    cases f with
    | zero => simp at hf
    | succ f =>
      rw [List.flatMap_cons, List.append_assoc] at h
      obtain ⟨d1, T1, h1, h2, h3, h4⟩ := ruleP_ok (d := d) (hR R (by simp)) h
      obtain ⟨d2, T2, h5, h6⟩ := rulesF_ok Rs f T1 d1 (fun x hx => hR x (by simp [hx])) (by simp at hf; omega) h3
      refine ⟨d2, T2, ?_, ?_⟩
      · rw [rulesF, if_pos ⟨rfl, h4⟩, h1]
        exact h5
      · rw [h6, h2]
        rfl
theorem rul_len (Rs : List Rul) : Rs.length ≤ (Rs.flatMap rulKs).length := by
  induction Rs with
  | nil => simp
  | cons x l ih =>
    rw [List.flatMap_cons, List.length_append, List.length_cons]
    have : 1 ≤ (rulKs x).length := by cases x <;> simp [rulKs]
    omega
/-- What is read of a text of rules. -/
theorem parse_rules {l : List UInt8} {Rs : List Rul} (hl : l.length ≤ 4194304) (hR : ∀ R ∈ Rs, RulFit R) (h : Txt l (Rs.flatMap rulKs)) :
    ∃ rd : RD, rxOf rd = Rs.foldl rulX ⟨[], [], [], []⟩ ∧ parseA l = match meanF rd.M ⟨List.replicate rd.M.length [], [], []⟩ with
      | .error e => .error e
      | .ok d => .ok ⟨d.W, d.M, rd.A, rd.B, rd.C⟩ := by
  have hT := strm_txt _ _ h (l.length + 1) 0 (by have := h.len; omega)
  obtain ⟨T, hTd⟩ : ∃ T, T = strm (l.length + 1) l 0 := ⟨_, rfl⟩
  rw [← hTd] at hT
  have hTl : Rs.length < T.length := by
    have := congrArg List.length hT
    unfold ksOf at this
    rw [List.length_map, List.length_append] at this
    have := rul_len Rs
    simp at *
    omega
  obtain ⟨rd, T', h1, h2⟩ := rulesF_ok Rs T.length T ⟨[], [], [], []⟩ hR hTl hT
  refine ⟨rd, h2, ?_⟩
  unfold parseA
  rw [if_neg (by omega)]
  simp only [← hTd, h1, Bool.false_eq_true, if_false]
  cases meanF rd.M ⟨List.replicate rd.M.length [], [], []⟩ <;> rfl
end Go.Proofs.YtonbfcpbgkpbaaaGreatDoor
end
section
/- recipe.areUnlike of any list: its contract. -/
namespace Go.Proofs.YtonbfcpbgkpbaaaGreatDoor
open Go.RowKit Go.Sort Go.Joins Go.Maps
set_option linter.unusedVariables false
set_option linter.unusedSimpArgs false
set_option maxRecDepth 100000
/-- Block b is a map of m texts; S tells which. -/
def MapN (w : World) (b n m : Nat) (S : ByteArray → Bool) : Prop :=
  ∃ D : DataW Unit, w.ownsMap Tryz.prog 9 (plainElem Tryz.prog 3) b n D ∧ Maps.size D = m ∧ ∀ x l, keyOf Tryz.prog 9 (.string x) = some l → Maps.has D l = S x
theorem MapN.made (w : World) : MapN (w.alloc (.map #[] 0)) w.heap.size 0 0 (fun _ => false) :=
  ⟨.map [], World.ownsMap_made _ _ _ _, rfl, fun _ _ _ => rfl⟩
theorem MapN.put {w : World} {b n m : Nat} {S : ByteArray → Bool} {t : TypeId} (h : MapN w b n m S) (ht : Tryz.prog.underlying t = some (.map 9 3)) (hn : n < maxLen) {x : ByteArray} {l : Lit} (hk : keyOf Tryz.prog 9 (.string x) = some l) {a : Nat} (ha : a ≤ 9223372036854775807) :
    ∃ w', (Instr.mapUpdate t (.map (some b)) (.string x) (.int .i64 (a : Nat))).run Tryz.prog w = .ok () w' ∧ MapN w' b (n + 1) (m + if S x = true then 0 else 1) (fun y => decide (y = x) || S y) ∧ w.grownBy w' (some b) := by
  obtain ⟨D, h1, hm, h2⟩ := h
  have hw : (Lit.int .i64 ((a : Nat) : Int)).wf = true := WalkArith.wf_i64 (by omega)
  obtain ⟨w', hrun, r1, r2⟩ := h1.store lawS ht hn hk (plainElem_int (H := Unit) und3 hw)
  refine ⟨w', hrun, ⟨_, r1, ?_, ?_⟩, r2.grown⟩
  · rw [Maps.size_put (h1.tidy lawS), h2 x l hk, hm]
    split <;> omega
  · intro y l' hy
    by_cases hxy : y = x
    · subst hxy
      have : l' = l := Option.some.inj (hy.symm.trans hk)
      subst this
      rw [Maps.has_put_same h1.isMap (lawS.key hk)]
      simp
    · have hl : l' ≠ l := fun e => hxy (by have := lawS.inj (e ▸ hy) hk; cases this; rfl)
      rw [Maps.has_put_other hl, h2 y l' hy]
      simp [hxy]
def memB (l : List ByteArray) (y : ByteArray) : Bool := l.any fun z => decide (y = z)
/-- How many unlike words stand among the first k. -/
def dcn (ws : List ByteArray) : Nat → Nat
  | 0 => 0
  | k + 1 => dcn ws k + if memB (ws.take k) (ws.getD k ⟨#[]⟩) = true then 0 else 1
def unlikeF (ws : List ByteArray) : Bool := (dcn ws ws.length : Int) == (ws.length : Int)
theorem dcn_le (ws : List ByteArray) : ∀ k, dcn ws k ≤ k
  | 0 => Nat.le_refl _
  | k + 1 => by have := dcn_le ws k; unfold dcn; split <;> omega
theorem WSP.cellAt {w : World} {a : Option Addr} {ws : List ByteArray} (h : WSP w a ws) {k : Nat} (hk : k < ws.length) : ∃ b off, a = some ⟨b, off, none⟩ ∧ w.cell? ⟨b, off + k, none⟩ = some (.string (ws.getD k ⟨#[]⟩)) := by
  rcases h with h | ⟨b, off, ha, hc⟩
  · rw [h] at hk; simp at hk
  · exact ⟨b, off, ha, hc k _ (by simp [List.getD, hk])⟩
set_option maxHeartbeats 2000000 in
theorem unlike_any (a : Option Addr) (c : Nat) (ws : List ByteArray) (w : World) (h : WSP w a ws) (hn : ws.length ≤ 4611686018427387904) (hs : ∀ x ∈ ws, x.size ≤ 4611686018427387904) :
    Calls Tryz.prog 15 #[.slice a ws.length c] w fun e w' => e = .returned (.bool (unlikeF ws)) ∧ Below w.heap.size w w' := by
  have HS := Lib.hid h
  have HZ := Lib.hid hs
  obtain ⟨n, hl⟩ : ∃ n, n = ws.length := ⟨_, rfl⟩
  have HL := Lib.hid hl
  have HU := Lib.hid (show unlikeF ws = ((dcn ws n : Int) == (n : Int)) by rw [hl]; rfl)
  rw [← hl] at hn ⊢
  have hm0 := MapN.made w
  have hb0 := box_below w (.map #[] 0)
  obtain ⟨X, hX⟩ : ∃ X, X = w.alloc (.map #[] 0) := ⟨_, rfl⟩
  rw [← hX] at hm0 hb0
  have HX := Lib.hid hX
  have HM0 := Lib.hid hm0
  have HB0 := Lib.hid hb0
  have hmm := @run_makeMap Tryz.prog
  clear h hs hl hX hm0 hb0
  go_enter Tryz.func15, Tryz.ntmps15
  go_wp2_with fail
  rw [← HX.out]
  clear HX hmm
  go_loopw [4, 5, 9] (fun x y i wr => ∃ k : Nat, k ≤ n ∧ i = .int .i64 (k : Nat) ∧ MapN wr w.heap.size k (dcn ws k) (memB (ws.take k)) ∧ Below w.heap.size w wr) (fun _ _ i _ => n - (intOf i).toNat)
  case atStart => exact ⟨0, Nat.zero_le _, rfl, HM0.out, HB0.out⟩
  case round =>
    obtain ⟨k, hk, rfl, hM, hb⟩ := hrel
    by_cases hlt : k < n
    · have hkl : k < ws.length := by have := HL.out; omega
      obtain ⟨b, off, rfl, c0⟩ := (HS.out.below hb).cellAt hkl
      have hget : ws.getD k ⟨#[]⟩ = ws[k] := by simp [List.getD, hkl]
      have hsz := HZ.out ws[k] (List.getElem_mem hkl)
      rw [← hget] at hsz
      obtain ⟨w2, hr, hM2, hg⟩ := hM.put (t := 75) Tryz.underlying75 (by unfold maxLen; omega) (keyS _ hsz) (a := k) (by omega)
      have hM3 : MapN w2 w.heap.size (k + 1) (dcn ws (k + 1)) (memB (ws.take (k + 1))) := by
        obtain ⟨D, d1, d2, d3⟩ := hM2
        refine ⟨D, d1, d2, fun x l hx => ?_⟩
        rw [d3 x l hx, hget]
        unfold memB
        rw [List.take_add_one, List.getElem?_eq_getElem hkl, Option.toList_some, List.any_append]
        simp [Bool.or_comm]
      have HM3 := Lib.hid hM3
      have HB3 := Lib.hid (hb.grown hg hb.size (fun j hj => by cases hj; exact Nat.le_refl _))
      obtain ⟨x, hx⟩ : ∃ x, x = ws.getD k ⟨#[]⟩ := ⟨_, rfl⟩
      rw [← hx] at c0 hr
      clear hM hb hget hsz hM2 hg hM3 hx
      go_wp2_with fail
      go_roundw
      case rel => exact ⟨k + 1, by omega, by go_num, HM3.out, HB3.out⟩
      case measure => simp only [intOf]; omega
    · obtain rfl : k = n := by omega
      have HB := Lib.hid hb
      obtain ⟨D, d1, d2, _⟩ := hM
      have hlen := d1.len (t := 75) Tryz.underlying75 3
      rw [d2] at hlen
      obtain ⟨d, hd⟩ : ∃ d, d = dcn ws k := ⟨_, rfl⟩
      have HD := Lib.hid hd
      rw [← hd] at hlen
      clear d1 d2 hd hb
      go_wp2_with fail
      go_ret
      exact ⟨by rw [HU.out, ← HD.out]; rfl, HB.out⟩
end Go.Proofs.YtonbfcpbgkpbaaaGreatDoor
end
section
/- recipe.Print's wordOf, areMade's isMade, strings.CutPrefix: their contracts. -/
namespace Go.Proofs.YtonbfcpbgkpbaaaGreatDoor
open Go.RowKit Go.Sort Go.Joins
set_option linter.unusedVariables false
set_option linter.unusedSimpArgs false
set_option maxRecDepth 100000
/-- The word of an id. -/
def wordF (ws : List ByteArray) (id : Nat) : ByteArray := if id < 256 then ⟨#[UInt8.ofNat id]⟩ else ws.getD (id - 256) ⟨#[]⟩
theorem byte_text (u : World) (id : Nat) (h : id < 256) : (convert 50 9 (.slice (some ⟨u.heap.size, 0, none⟩) 1 1)).run Tryz.prog (u.alloc (.cells #[.int .u8 (id : Nat)] 5)) = .ok (.string ⟨#[UInt8.ofNat id]⟩) (u.alloc (.cells #[.int .u8 (id : Nat)] 5)) := by
  have h := run_convert_bytes_arg (P := Tryz.prog) (u.alloc (.cells #[.int .u8 (id : Nat)] 5)) 50 5 Tryz.underlying50 Tryz.underlying5 u.heap.size 0 1 1 [(id : Int)] rfl (fun j hj => by
    obtain rfl : j = 0 := by omega
    rw [cell_of_block (heap_alloc_new _ _)]; rfl) 9 Tryz.underlying9
  rw [h]
  rfl
set_option maxHeartbeats 1000000 in
theorem word_low (z id : Nat) (h : id < 256) (w : World) : Calls Tryz.prog 14 #[.int .i64 (id : Nat), .pointer (some ⟨z, 0, none⟩)] w fun e w' => e = .returned (.string ⟨#[UInt8.ofNat id]⟩) ∧ Below w.heap.size w w' := by
  have d0 : decide ((id : Int) < 256) = true := decide_eq_true (by omega)
  have hcv := byte_text w id h
  have hmod : ((id : Nat) : Int) % 256 = (id : Nat) := by omega
  go_enter Tryz.func14, Tryz.ntmps14
  go_wp2_with fail
  go_ret
  exact ⟨rfl, box_below w _⟩
set_option maxHeartbeats 1000000 in
theorem word_high (z id : Nat) (a : Option Addr) (c : Nat) (ws : List ByteArray) (w : World) (h : ¬ id < 256) (hi : id - 256 < ws.length) (hid : id ≤ 4611686018427387904) (c0 : w.cell? ⟨z, 0, none⟩ = some (.slice a ws.length c)) (hw : WSP w a ws) :
    Calls Tryz.prog 14 #[.int .i64 (id : Nat), .pointer (some ⟨z, 0, none⟩)] w fun e w' => e = .returned (.string (ws.getD (id - 256) ⟨#[]⟩)) ∧ w' = w := by
  have d0 : decide ((id : Int) < 256) = false := decide_eq_false (by omega)
  obtain ⟨q, hq⟩ : ∃ q : Nat, id = q + 256 := ⟨id - 256, by omega⟩
  subst hq
  rw [Nat.add_sub_cancel] at hi ⊢
  obtain ⟨b, off, rfl, cc⟩ := hw.cellAt hi
  obtain ⟨n, hn⟩ : ∃ n, n = ws.length := ⟨_, rfl⟩
  rw [← hn] at hi c0
  obtain ⟨x, hx⟩ : ∃ x, x = ws.getD q ⟨#[]⟩ := ⟨_, rfl⟩
  rw [← hx] at cc ⊢
  clear hw hn hx h
  have hsub : ((q + 256 : Nat) : Int) - 256 = (q : Nat) := by omega
  go_enter Tryz.func14, Tryz.ntmps14
  go_wp2_with fail
  go_ret
  exact ⟨rfl, rfl⟩
theorem wordOf_any (z id : Nat) (a : Option Addr) (c : Nat) (ws : List ByteArray) (w : World) (hi : id < 256 + ws.length) (hn : ws.length ≤ 1000000000000) (c0 : w.cell? ⟨z, 0, none⟩ = some (.slice a ws.length c)) (hw : WSP w a ws) :
    Calls Tryz.prog 14 #[.int .i64 (id : Nat), .pointer (some ⟨z, 0, none⟩)] w fun e w' => e = .returned (.string (wordF ws id)) ∧ Below w.heap.size w w' := by
  unfold wordF
  by_cases h : id < 256
  · rw [if_pos h]
    exact word_low z id h w
  · rw [if_neg h]
    refine (word_high z id a c ws w h (by omega) (by omega) c0 hw).mono ?_
    rintro e w' ⟨rfl, rfl⟩
    exact ⟨rfl, Below.refl _ _⟩
/-- A row of marks. -/
structure Marks7 (w : World) (cb g n : Nat) (M : Nat → Bool) : Prop where
  at_ : w.heap[cb]? = some (.cells #[.slice (some ⟨g, 0, none⟩) n n] 76 (0, 0))
  row : ∃ cur, w.heap[g]? = some (.cells cur 4 (0, 0)) ∧ ∀ j, j < n → cur[j]? = some (.bool (M j))
theorem Marks7.cell {w : World} {cb g n : Nat} {M : Nat → Bool} (h : Marks7 w cb g n M) {j : Nat} (hj : j < n) : w.cell? ⟨g, j, none⟩ = some (.bool (M j)) := by
  obtain ⟨cur, h1, h2⟩ := h.row
  rw [cell_of_block h1]
  exact h2 j hj
theorem Marks7.below {w w' : World} {cb g n B : Nat} {M : Nat → Bool} (h : Marks7 w cb g n M) (hb : Below B w w') (hB : w.heap.size ≤ B) : Marks7 w' cb g n M := by
  obtain ⟨cur, h1, h2⟩ := h.row
  exact ⟨(hb.block cb (Nat.lt_of_lt_of_le (Array.getElem?_eq_some_iff.1 h.at_).1 hB)).trans h.at_, cur, (hb.block g (Nat.lt_of_lt_of_le (Array.getElem?_eq_some_iff.1 h1).1 hB)).trans h1, h2⟩
def isMadeF (n : Nat) (M : Nat → Bool) (id : Int) : Bool := decide (0 ≤ id) && decide (id < (n : Int)) && M id.toNat
set_option maxHeartbeats 1000000 in
theorem isMade_any (cb g n : Nat) (M : Nat → Bool) (id : Int) (w : World) (h : Marks7 w cb g n M) (hn : n ≤ 4611686018427387904) :
    Calls Tryz.prog 34 #[.int .i64 id, .pointer (some ⟨cb, 0, none⟩)] w fun e w' => e = .returned (.bool (isMadeF n M id)) ∧ w' = w := by
  have c0 : w.cell? ⟨cb, 0, none⟩ = some (.slice (some ⟨g, 0, none⟩) n n) := by rw [cell_of_block h.at_]; rfl
  unfold isMadeF
  by_cases h0 : 0 ≤ id
  · have d0 : decide (0 ≤ id) = true := decide_eq_true h0
    obtain ⟨k, rfl⟩ : ∃ k : Nat, id = (k : Int) := ⟨id.toNat, by omega⟩
    by_cases h1 : k < n
    · have d1 : decide ((k : Int) < (n : Int)) = true := decide_eq_true (by omega)
      have ck := h.cell h1
      rw [d0, d1, Int.toNat_natCast]
      clear h h0
      go_enter Tryz.func34, Tryz.ntmps34
      go_wp2_with fail
      go_ret
      exact ⟨rfl, rfl⟩
    · have d1 : decide ((k : Int) < (n : Int)) = false := decide_eq_false (by omega)
      rw [d0, d1]
      clear h h0
      go_enter Tryz.func34, Tryz.ntmps34
      go_wp2_with fail
      go_ret
      exact ⟨rfl, rfl⟩
  · have d0 : decide (0 ≤ id) = false := decide_eq_false h0
    rw [d0]
    clear h h0
    go_enter Tryz.func34, Tryz.ntmps34
    go_wp2_with fail
    go_ret
    exact ⟨rfl, rfl⟩
/-- What CutPrefix answers. -/
def cutP (s p : ByteArray) : ByteArray × Bool := if preB s p = true then (s.extract p.size s.size, true) else (s, false)
theorem liteCut_any (s p : ByteArray) (hs : s.size ≤ 9223372036854775807) (w : World) :
    Calls Tryz.prog 48 #[.string s, .string p] w fun e w' => e = .returned (.tuple #[.string (cutP s p).1, .bool (cutP s p).2]) ∧ w' = w := by
  have hP := litePre_any s p hs w
  rw [show (decide (p.size ≤ s.size) && ((s.extract 0 p.size).toList == p.toList)) = preB s p from rfl] at hP
  unfold cutP
  cases hb : preB s p with
  | true =>
    have hle : p.size ≤ s.size := by
      unfold preB at hb
      rw [Bool.and_eq_true, decide_eq_true_eq] at hb
      exact hb.1
    rw [hb] at hP
    clear hb
    go_enter Tryz.func48, Tryz.ntmps48
    go_wp2_with fail
    refine hP.mono ?_
    rintro e w' ⟨rfl, hw⟩
    rw [hw]
    go_wp2_with fail
    go_ret2
    exact ⟨rfl, rfl⟩
  | false =>
    rw [hb] at hP
    clear hb
    go_enter Tryz.func48, Tryz.ntmps48
    go_wp2_with fail
    refine hP.mono ?_
    rintro e w' ⟨rfl, hw⟩
    rw [hw]
    go_wp2_with fail
    go_ret2
    exact ⟨rfl, rfl⟩
theorem cut_any (s p : ByteArray) (hs : s.size ≤ 9223372036854775807) (w : World) :
    Calls Tryz.prog 35 #[.string s, .string p] w fun e w' => e = .returned (.tuple #[.string (cutP s p).1, .bool (cutP s p).2]) ∧ w' = w := by
  have hP := liteCut_any s p hs w
  generalize (cutP s p).1 = a at *
  generalize (cutP s p).2 = b at *
  go_enter Tryz.func35, Tryz.ntmps35
  go_wp2_with fail
  refine hP.mono ?_
  rintro e w' ⟨rfl, hw⟩
  rw [hw]
  go_wp2_with fail
  go_ret2
  exact ⟨rfl, rfl⟩
end Go.Proofs.YtonbfcpbgkpbaaaGreatDoor
end
