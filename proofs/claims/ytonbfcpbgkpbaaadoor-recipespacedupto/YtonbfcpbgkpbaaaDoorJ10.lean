import Derived.Test.YtonbfcpbgkpbaaaDoorJ9
import Derived.Test.YtonbfcpbgkpbaaaDoorJ2
import Derived.Lib.Builder
import Derived.Lib.AppendStr
import Derived.Lib.UnsafeStr
import Derived.Laws.Externs
import Derived.Test.YtonbfcpbgkpbaaaDoorJ7
import Derived.Test.YtonbfcpbgkpbaaaDoorJ1
import Derived.Below
import Derived.Lib.Bytealg
import Derived.Lib.Walk
import Derived.Lib.Strings
import Derived.Lib.LastIndexByte
section
/- recipe.Quote and the reader's own: their contracts. -/
namespace Go.Proofs.YtonbfcpbgkpbaaaDoor
open Go.RowKit Go.Sort Go.Joins
set_option linter.unusedVariables false
set_option linter.unusedSimpArgs false
set_option maxRecDepth 100000
def hexC (n : Nat) : UInt8 := UInt8.ofNat (if n < 10 then 48 + n else 87 + n)
/-- A byte as a word has it. -/
def quoteB (c : UInt8) : List UInt8 := if c.toNat = 34 ∨ c.toNat = 92 then [92, c] else if 32 ≤ c.toNat ∧ c.toNat ≤ 126 then [c] else [92, hexC (c.toNat / 16), hexC (c.toNat % 16)]
def quoteF (l : List UInt8) : List UInt8 := 34 :: (l.flatMap quoteB ++ [34])
theorem quoteB_len (c : UInt8) : (quoteB c).length ≤ 3 := by
  unfold quoteB
  split
  · simp
  · split <;> simp
theorem quoteT_len (l : List UInt8) : (l.flatMap quoteB).length ≤ 3 * l.length := by
  induction l with
  | nil => simp
  | cons c l ih => rw [List.flatMap_cons, List.length_append, List.length_cons]; have := quoteB_len c; omega
theorem index_hex (n : Nat) (h : n < 16) (w : World) : (Instr.index 9 (.string ⟨#[48, 49, 50, 51, 52, 53, 54, 55, 56, 57, 97, 98, 99, 100, 101, 102]⟩) (.int .u8 (n : Nat))).run Tryd.prog w = .ok (.int .u8 ((hexC n).toNat : Nat)) w := by
  have : n = 0 ∨ n = 1 ∨ n = 2 ∨ n = 3 ∨ n = 4 ∨ n = 5 ∨ n = 6 ∨ n = 7 ∨ n = 8 ∨ n = 9 ∨ n = 10 ∨ n = 11 ∨ n = 12 ∨ n = 13 ∨ n = 14 ∨ n = 15 := by omega
  rcases this with rfl | rfl | rfl | rfl | rfl | rfl | rfl | rfl | rfl | rfl | rfl | rfl | rfl | rfl | rfl | rfl <;> (show _ = _; kernel_rfl)
theorem index_exec (n : Nat) (h : n < 16) (o : Oper) (x : Operand) (hop : o.op = Op.index 9 (.const (.string ⟨#[48, 49, 50, 51, 52, 53, 54, 55, 56, 57, 97, 98, 99, 100, 101, 102]⟩)) x) (a : Act) (hx : a.eval x = .int .u8 (n : Nat)) (w : World) : (execOp a.eval o).run Tryd.prog w = .ok (.value (.int .u8 ((hexC n).toNat : Nat))) w := by
  have hi := index_hex n h w
  have hc : a.eval (.const (.string ⟨#[48, 49, 50, 51, 52, 53, 54, 55, 56, 57, 97, 98, 99, 100, 101, 102]⟩)) = .string ⟨#[48, 49, 50, 51, 52, 53, 54, 55, 56, 57, 97, 98, 99, 100, 101, 102]⟩ := rfl
  simp only [execOp, hop, hx, hc, Sem.run_bind, hi, Result.andThen]
  rfl
theorem and_15 : ∀ n : Nat, n < 256 → bits BinOp.and IntKind.u8 (n : Int) 15 = ((n % 16 : Nat) : Int) := by decide
theorem own_row (W : World) (r : List UInt8) : Oc.BS (W.alloc (.cells (r.map fun c => Value.int .u8 (c.toNat : Int)).toArray 5)) (some ⟨W.heap.size, 0, none⟩) r := Oc.BS.new W r 5
def bv (c : UInt8) : Value := .int .u8 (c.toNat : Int)
/-- Bytes are laid behind what is written: which block turns. -/
theorem put_bytes (wr : World) (base : Nat) (v : Value) (acc r : List UInt8) (h : Oc.OwnS wr base v acc) (hb : base ≤ wr.heap.size) (hn : acc.length + r.length ≤ 140737488355328) :
    ∃ v' w', (Builtin.append_ #[35, 35] 35 #[v, .slice (some ⟨wr.heap.size, 0, none⟩) r.length r.length]).run Tryd.prog (wr.alloc (.cells (r.map bv).toArray 5)) = .ok v' w' ∧ Oc.OwnS w' base v' (acc ++ r) ∧ Bu wr.heap.size v.ownBlock wr.heap.size wr w' ∧ Moved v v' wr.heap.size := by
  obtain ⟨i0, hi, hz0, hz1, hz2⟩ := info_parts Oc.info5
  have hbx : Below wr.heap.size wr (wr.alloc (.cells (r.map bv).toArray 5)) := box_below wr _
  have hown : Oc.OwnS (wr.alloc (.cells (r.map bv).toArray 5)) base v acc := h.below hbx (Nat.le_refl _)
  have hx := heap_alloc_new wr (.cells (r.map bv).toArray 5)
  obtain ⟨W, hW⟩ : ∃ W, W = wr.alloc (.cells (r.map bv).toArray 5) := ⟨_, rfl⟩
  have hsz : W.heap.size = wr.heap.size + 1 := by rw [hW]; simp
  rw [← hW] at hbx hown hx ⊢
  have hc : ∀ j u, (r.map bv)[j]? = some u → W.cell? ((⟨wr.heap.size, 0, none⟩ : Addr).add j) = some u := by
    intro j u hu
    rw [cell_add, Nat.zero_add, cell_of_block hx]
    simpa using hu
  have h1c : ∀ u ∈ r.map bv, u.oneCell' = true := by
    intro u hu
    obtain ⟨c, -, rfl⟩ := List.mem_map.1 hu
    rfl
  have hend : ∀ (v' : Value) (w' : World), w'.ownsRow base 5 1 v' (acc.length + r.length) (acc.map bv ++ r.map bv) → Oc.OwnS w' base v' (acc ++ r) := by
    intro v' w' h
    unfold Oc.OwnS Oc.cellsOf
    rw [List.length_append, List.map_append]
    exact h
  have hfin : ∀ (v' : Value) (w' : World), W.grownBy w' v.ownBlock → (∀ b, v'.ownBlock = some b → v.ownBlock = some b ∨ W.heap.size ≤ b) → Bu wr.heap.size v.ownBlock wr.heap.size wr w' ∧ Moved v v' wr.heap.size := by
    intro v' w' h3 h4
    refine ⟨⟨h3.os.trans hbx.os, h3.tape.trans hbx.tape, h3.output.trans hbx.output, Nat.le_trans hbx.size h3.size, fun k hk hne ho => (h3.block k (by omega) ho).trans (hbx.block k hk)⟩, fun b hbb => ?_⟩
    rcases h4 b hbb with h | h
    · exact .inl h
    · exact .inr (by omega)
  rcases hown.2 with ⟨rfl, h0⟩ | ⟨g, cp, cur, rfl, hg, hh, hn2, hm, hcs, ht⟩
  · obtain ⟨v', w', h1, h2, h3, _⟩ := run_append_own (P := Tryd.prog) W W.heap.size 35 35 5 i0 _ 1 1 Tryd.underlying35 hi hz0 hz1 hz2 (by simp [Value.cells]) (by decide) (.slice none 0 0) acc.length (acc.map bv) ⟨hown.1, .inl ⟨rfl, h0⟩⟩ ⟨wr.heap.size, 0, none⟩ r.length r.length (r.map bv) (by simp) hc h1c (by unfold maxLen; omega) (by omega) (Nat.le_refl _)
    refine ⟨v', w', h1, hend v' w' (ownsRow_le h2 (by omega)), hfin v' w' h3 fun i hi => .inr ?_⟩
    rcases h2.2 with ⟨hv, _⟩ | ⟨b2, cap2, cur2, hv, hbb, _⟩
    · rw [hv] at hi; cases hi
    · rw [hv] at hi; cases hi; exact hbb
  · by_cases hroom : acc.length + r.length ≤ cp
    · obtain ⟨w', h1, h2, h3⟩ := run_append_fits (P := Tryd.prog) W base 35 35 5 i0 1 Tryd.underlying35 hi hz1 g acc.length cp (acc.map bv) hown ⟨wr.heap.size, 0, none⟩ r.length r.length (r.map bv) (by simp) hc h1c hroom
      exact ⟨_, w', h1, hend _ w' h2, hfin _ w' h3 (fun i hi => .inl hi)⟩
    · obtain ⟨v', w', h1, h2, h3⟩ := run_append_arg_grows (P := Tryd.prog) W 35 35 5 i0 _ 1 1 Tryd.underlying35 hi hz0 hz1 hz2 (by simp [Value.cells]) (by decide) ⟨g, 0, none⟩ acc.length cp (acc.map bv) (by simp) (fun j u hu => by
        have hj : j < acc.length * 1 := by have := (List.getElem?_eq_some_iff.1 hu).1; simpa using this
        rw [cell_add, Nat.zero_add, World.ownsRow.cellAt hown j hj]; exact hu) ⟨wr.heap.size, 0, none⟩ r.length r.length (r.map bv) (by simp) hc (by omega) (by unfold maxLen; omega) (by omega)
      have h3' : W.grownBy w' (Value.slice (some ⟨g, 0, none⟩) acc.length cp).ownBlock := ⟨h3.os, h3.tape, h3.output, h3.size, fun j hj _ => h3.block j hj (by simp)⟩
      refine ⟨v', w', h1, hend v' w' (ownsRow_le h2 (by omega)), hfin v' w' h3' fun i hi => .inr ?_⟩
      rcases h2.2 with ⟨hv, _⟩ | ⟨b2, cap2, cur2, hv, hbb, _⟩
      · rw [hv] at hi; cases hi
      · rw [hv] at hi; cases hi; exact hbb
set_option maxHeartbeats 2000000 in
theorem quote_any (s : ByteArray) (w : World) (hs : s.size ≤ 4194304) :
    Calls Tryd.prog 17 #[.string s] w fun e w' => e = .returned (.string (textOf (quoteF (tl s)))) ∧ Below w.heap.size w w' := by
  obtain ⟨Q, hQ⟩ : ∃ Q, Q = quoteF (tl s) := ⟨_, rfl⟩
  rw [← hQ]
  have HQ := Lib.hid hQ
  have hb0 := box_below w (.cells #[.int .u8 34] 5)
  have hO0 : Oc.OwnS (w.alloc (.cells #[.int .u8 34] 5)) w.heap.size (.slice (some ⟨w.heap.size, 0, none⟩) 1 1) [34] := ⟨rfl, .inr ⟨w.heap.size, 1, _, rfl, Nat.le_refl _, heap_alloc_new w _, Nat.le_refl _, by decide, rfl, rfl⟩⟩
  obtain ⟨w1, hw1⟩ : ∃ w1, w1 = w.alloc (.cells #[.int .u8 34] 5) := ⟨_, rfl⟩
  rw [← hw1] at hb0 hO0
  have HW1 := Lib.hid hw1
  have hcv := Lib.run_convert_string_bytes (P := Tryd.prog) w1 9 35 5 s Tryd.underlying9 Tryd.underlying35 Tryd.underlying5
  have hcell := Lib.bytesWorld_cell w1 5 s
  have hbl := bytesWorld_below w1 s
  obtain ⟨z, hz⟩ : ∃ z, z = w1.heap.size := ⟨_, rfl⟩
  obtain ⟨W, hW⟩ : ∃ W, W = Lib.bytesWorld w1 5 s := ⟨_, rfl⟩
  rw [← hW] at hcell hbl
  rw [← hz] at hcell
  obtain ⟨cp, hcp⟩ : ∃ cp, cp = grownCap w1 s.size 0 5 := ⟨_, rfl⟩
  have hcv2 : (convert 9 35 (.string s)).run Tryd.prog (w.alloc (.cells #[.int .u8 34] 5)) = .ok (.slice (some ⟨z, 0, none⟩) s.size cp) W := by rw [← hw1, hz, hW, hcp]; exact hcv
  have hO1 := hO0.below hbl (Nat.le_refl _)
  have hb1 := hb0.trans (hbl.mono hb0.size)
  have hzz : z = w.heap.size + 1 := by rw [hz, hw1]; simp
  have HC := Lib.hid hcell
  have HZZ := Lib.hid hzz
  have HO := Lib.hid hO1
  have HB := Lib.hid hb1
  clear hQ hw1 hcell hbl hz hW hO0 hb0 hO1 hb1 hcv hcp hzz
  go_enter Tryd.func17, Tryd.ntmps17
  go_wp2_with fail
  go_loopw [3, 10] (fun sv i wr => ∃ (k : Nat) (acc : List UInt8) (v : Value), v = sv ∧ k ≤ s.size ∧ i = .int .i64 (k : Nat) ∧ acc = 34 :: ((tl s).take k).flatMap quoteB ∧ Oc.OwnS wr w.heap.size v acc ∧ Below w.heap.size w wr ∧ wr.heap[z]? = W.heap[z]? ∧ (∀ i, v.ownBlock = some i → i ≠ z)) (fun _ i _ => s.size - (intOf i).toNat)
  case atStart => exact ⟨0, [34], _, rfl, Nat.zero_le _, rfl, rfl, HO.out, HB.out, rfl, fun i hi => by have hi : w.heap.size = i := Option.some.inj hi; have := HZZ.out; omega⟩
  case round =>
    obtain ⟨k, acc, v, rfl, hk, rfl, hacc, hOw, hBw, hzk, hoz⟩ := hrel
    have hal : acc.length ≤ 12582913 := by
      rw [hacc, List.length_cons]
      have := quoteT_len ((tl s).take k)
      rw [List.length_take] at this
      omega
    have hap : 0 < acc.length := by rw [hacc]; simp
    obtain ⟨gb, cap, hv, hgb, -⟩ := hOw.form hap
    have hbs := hBw.size
    by_cases hlt : k < s.size
    · have hkl : k < (tl s).length := by simpa using hlt
      have g0 : decide ((k : Int) < (s.size : Int)) = true := decide_eq_true (by omega)
      have ck0 := HC.out k hlt
      rw [show s.data.toList.getD k 0 = (tl s)[k] by simp [List.getD, hlt]] at ck0
      have hzW : z < W.heap.size := World.block_lt_of_cell? W _ ck0
      have hzr : z < wr.heap.size := by
        obtain ⟨o, ho⟩ : ∃ o, W.heap[z]? = some o := ⟨_, Array.getElem?_eq_getElem hzW⟩
        exact (Array.getElem?_eq_some_iff.1 (hzk.trans ho)).1
      have ck : wr.cell? ⟨z, k, none⟩ = some (.int .u8 (((tl s)[k]).toNat : Int)) := by
        rw [← ck0]; unfold World.cell?; simp only [hzk]
      obtain ⟨c, hc⟩ : ∃ c, c = (tl s)[k] := ⟨_, rfl⟩
      have hs1 : 34 :: ((tl s).take (k + 1)).flatMap quoteB = acc ++ quoteB c := by
        rw [List.take_succ_eq_append_getElem hkl, List.flatMap_append, hacc, hc]
        simp
      rw [← hc] at ck
      have HST : Hid (∀ (v2 : Value) (w2 : World) (r : List UInt8), Oc.OwnS w2 w.heap.size v2 (acc ++ r) → Bu wr.heap.size v.ownBlock wr.heap.size wr w2 → Moved v v2 wr.heap.size → quoteB c = r → ∃ acc', acc' = 34 :: ((tl s).take (k + 1)).flatMap quoteB ∧ Oc.OwnS w2 w.heap.size v2 acc' ∧ Below w.heap.size w w2 ∧ w2.heap[z]? = W.heap[z]? ∧ (∀ i, v2.ownBlock = some i → i ≠ z)) := Lib.hid (fun v2 w2 r h1 h2 h3 hq => by
        refine ⟨_, hs1.symm, by rw [hq]; exact h1, ?_, ?_, ?_⟩
        · refine ⟨h2.os.trans hBw.os, h2.tape.trans hBw.tape, h2.output.trans hBw.output, Nat.le_trans hbs h2.size, fun j hj => ?_⟩
          refine (h2.block j (by omega) (by omega) ?_).trans (hBw.block j hj)
          intro e
          rw [hv] at e
          have e : j = gb := Option.some.inj e
          omega
        · exact (h2.block z hzr (by omega) (fun e => hoz z e.symm rfl)).trans hzk
        · intro i hi
          rcases h3 i hi with h | h
          · exact hoz i h
          · omega)
      have hb8 : c.toNat < 256 := UInt8.toNat_lt c
      clear hs1 hc ck0 hacc hzk hoz hzW hzr hkl hv hgb
      by_cases hA : c.toNat = 34 ∨ c.toNat = 92
      · have hq : quoteB c = [92, c] := by unfold quoteB; rw [if_pos hA]
        have HQB := Lib.hid hq
        obtain ⟨v2, w2, hr, hO2, hB2, hM2⟩ := put_bytes wr w.heap.size v acc [92, c] hOw hbs (by show acc.length + 2 ≤ _; omega)
        have hr : (Builtin.append_ #[35, 35] 35 #[v, .slice (some ⟨wr.heap.size, 0, none⟩) 2 2]).run Tryd.prog (wr.alloc (.cells #[.int .u8 92, .int .u8 (c.toNat : Int)] 5)) = .ok v2 w2 := hr
        have HEND := HST.out v2 w2 [92, c] hO2 hB2 hM2
        have HE := Lib.hid HEND
        clear hO2 hB2 hM2 HEND
        rcases hA with hA | hA
        · have g1 : ((c.toNat : Int) == 34) = true := by simp; omega
          clear hA hq hOw
          generalize c.toNat = cn at *
          go_wp2_with (at_builtin; refine wpList_append_run rfl (.tmp 30) (.tmp 32) 35 35 rfl _ _ rfl rfl _ w2 hr ?_; clear hr)
          obtain ⟨acc', ha, hE⟩ := HE.out HQB.out
          exact ⟨⟨k + 1, acc', _, rfl, by omega, by go_num, ha, hE⟩, by simp only [intOf]; omega⟩
        · have g1 : ((c.toNat : Int) == 34) = false := by simp; omega
          have g2 : ((c.toNat : Int) == 92) = true := by simp; omega
          clear hA hq hOw
          generalize c.toNat = cn at *
          go_wp2_with (at_builtin; refine wpList_append_run rfl (.tmp 30) (.tmp 32) 35 35 rfl _ _ rfl rfl _ w2 hr ?_; clear hr)
          obtain ⟨acc', ha, hE⟩ := HE.out HQB.out
          exact ⟨⟨k + 1, acc', _, rfl, by omega, by go_num, ha, hE⟩, by simp only [intOf]; omega⟩
      · have g1 : ((c.toNat : Int) == 34) = false := by simp; omega
        have g2 : ((c.toNat : Int) == 92) = false := by simp; omega
        have HS := isShown_any (c.toNat : Int) wr
        by_cases hB : 32 ≤ c.toNat ∧ c.toNat ≤ 126
        · have hq : quoteB c = [c] := by unfold quoteB; rw [if_neg hA, if_pos hB]
          have HQB := Lib.hid hq
          rw [show (decide ((32 : Int) ≤ (c.toNat : Int)) && decide ((c.toNat : Int) ≤ 126)) = true by simp; omega] at HS
          obtain ⟨v2, w2, hr, hO2, hB2, hM2⟩ := put_bytes wr w.heap.size v acc [c] hOw hbs (by show acc.length + 1 ≤ _; omega)
          have hr : (Builtin.append_ #[35, 35] 35 #[v, .slice (some ⟨wr.heap.size, 0, none⟩) 1 1]).run Tryd.prog (wr.alloc (.cells #[.int .u8 (c.toNat : Int)] 5)) = .ok v2 w2 := hr
          have HEND := HST.out v2 w2 [c] hO2 hB2 hM2
          have HE := Lib.hid HEND
          clear hO2 hB2 hM2 HEND
          clear hA hB hq
          go_wp2_with fail
          refine HS.mono ?_
          rintro e w3 ⟨rfl, he⟩
          obtain rfl := he.symm
          go_wp2_with (at_builtin; refine wpList_append_run rfl (.tmp 38) (.tmp 40) 35 35 rfl _ _ rfl rfl _ w2 hr ?_; clear hr)
          obtain ⟨acc', ha, hE⟩ := HE.out HQB.out
          exact ⟨⟨k + 1, acc', _, rfl, by omega, by go_num, ha, hE⟩, by simp only [intOf]; omega⟩
        · have hq : quoteB c = [92, hexC (c.toNat / 16), hexC (c.toNat % 16)] := by unfold quoteB; rw [if_neg hA, if_neg hB]
          have HQB := Lib.hid hq
          rw [show (decide ((32 : Int) ≤ (c.toNat : Int)) && decide ((c.toNat : Int) ≤ 126)) = false by simp; omega] at HS
          obtain ⟨n1, hn1⟩ : ∃ n, n = c.toNat / 16 := ⟨_, rfl⟩
          obtain ⟨n2, hn2⟩ : ∃ n, n = c.toNat % 16 := ⟨_, rfl⟩
          have h15 := and_15 c.toNat hb8
          rw [← hn2] at h15
          rw [← hn1, ← hn2] at HQB
          have HA15 := Lib.hid h15
          have HE1 := Lib.hid hn1
          have HN1 : Hid (n1 < 16) := Lib.hid (by omega)
          have HN2 : Hid (n2 < 16) := Lib.hid (by omega)
          clear hn1 hn2 h15
          obtain ⟨v2, w2, hr, hO2, hB2, hM2⟩ := put_bytes wr.drew w.heap.size v acc [92, hexC n1, hexC n2] hOw hbs (by show acc.length + 3 ≤ _; omega)
          have hr : (Builtin.append_ #[35, 35] 35 #[v, .slice (some ⟨wr.heap.size, 0, none⟩) 3 3]).run Tryd.prog (wr.drew.alloc (.cells #[.int .u8 92, .int .u8 ((hexC n1).toNat : Int), .int .u8 ((hexC n2).toNat : Int)] 5)) = .ok v2 w2 := hr
          have HEND := HST.out v2 w2 [92, hexC n1, hexC n2] hO2 ⟨hB2.os, hB2.tape, hB2.output, hB2.size, hB2.block⟩ hM2
          have HE := Lib.hid HEND
          clear hO2 hB2 hM2 HEND
          clear hA hB hq
          go_wp2_with fail
          refine HS.mono ?_
          rintro e w3 ⟨rfl, he⟩
          obtain rfl := he.symm
          go_upto_region 5 with fail
          refine wp_region_heldtail 9 (fun _ : World => True) (by kernel_rfl) (by kernel_rfl) ?_
          refine HL_take (i := 0) v (by kernel_rfl) rfl (by omega) (by kernel_rfl) (by kernel_rfl) (by kernel_rfl) (fun _ _ _ h => h) (.inl ⟨by kernel_rfl, fun w' hw' => by go_simp⟩) trivial ?_
          simp only [Act.put, List.setIfInBounds_toArray, List.set_cons_zero, List.set_cons_succ]
          refine HL_take (i := 1) (.int .u8 (c.toNat : Int)) (by kernel_rfl) rfl (by omega) (by kernel_rfl) (by kernel_rfl) (by kernel_rfl) (fun _ _ _ h => h) (.inl ⟨by kernel_rfl, fun w' hw' => by go_simp⟩) trivial ?_
          simp only [Act.put, List.setIfInBounds_toArray, List.set_cons_zero, List.set_cons_succ]
          refine HL_take (i := 2) (.int .u8 (n1 : Nat)) (by kernel_rfl) rfl (by omega) (by kernel_rfl) (by kernel_rfl) (by kernel_rfl) (fun _ _ _ h => h) (.inl ⟨by kernel_rfl, fun w' hw' => by go_simp; have := HE1.out; omega⟩) trivial ?_
          simp only [Act.put, List.setIfInBounds_toArray, List.set_cons_zero, List.set_cons_succ]
          refine HL_take (i := 3) (.int .u8 ((hexC n1).toNat : Int)) (by kernel_rfl) rfl (by omega) (by kernel_rfl) (by kernel_rfl) (by kernel_rfl) (fun _ _ _ h => h) (.inl ⟨by kernel_rfl, fun w' hw' => index_exec n1 HN1.out _ (.tmp 16) rfl _ rfl w'⟩) trivial ?_
          simp only [Act.put, List.setIfInBounds_toArray, List.set_cons_zero, List.set_cons_succ]
          refine HL_take (i := 4) (.int .u8 (c.toNat : Int)) (by kernel_rfl) rfl (by omega) (by kernel_rfl) (by kernel_rfl) (by kernel_rfl) (fun _ _ _ h => h) (.inl ⟨by kernel_rfl, fun w' hw' => by go_simp⟩) trivial ?_
          simp only [Act.put, List.setIfInBounds_toArray, List.set_cons_zero, List.set_cons_succ]
          refine HL_take (i := 5) (.int .u8 (n2 : Nat)) (by kernel_rfl) rfl (by omega) (by kernel_rfl) (by kernel_rfl) (by kernel_rfl) (fun _ _ _ h => h) (.inl ⟨by kernel_rfl, fun w' hw' => by go_simp; exact HA15.out⟩) trivial ?_
          simp only [Act.put, List.setIfInBounds_toArray, List.set_cons_zero, List.set_cons_succ]
          refine HL_take (i := 6) (.int .u8 ((hexC n2).toNat : Int)) (by kernel_rfl) rfl (by omega) (by kernel_rfl) (by kernel_rfl) (by kernel_rfl) (fun _ _ _ h => h) (.inl ⟨by kernel_rfl, fun w' hw' => index_exec n2 HN2.out _ (.tmp 19) rfl _ rfl w'⟩) trivial ?_
          simp only [Act.put, List.setIfInBounds_toArray, List.set_cons_zero, List.set_cons_succ]
          refine HL_one (i := 7) rfl (by omega) (by kernel_rfl) rfl ?_
          refine wp_value (v := .slice (some ⟨wr.heap.size, 0, none⟩) 3 3) (w' := wr.drew.alloc (.cells #[.int .u8 92, .int .u8 ((hexC n1).toNat : Int), .int .u8 ((hexC n2).toNat : Int)] 5)) (by go_simp) ?_
          refine ⟨trivial, ?_⟩
          simp only [Act.put, List.setIfInBounds_toArray, List.set_cons_zero, List.set_cons_succ]
          refine HL_one (i := 8) rfl (by omega) (by kernel_rfl) rfl ?_
          refine wp_append (.tmp 14) (.tmp 21) 35 35 (by kernel_rfl) v (.slice (some ⟨wr.heap.size, 0, none⟩) 3 3) (by go_simp) (by go_simp) (fun v' w' => v' = v2 ∧ w' = w2) ⟨_, w2, hr, rfl, rfl⟩ ?_
          rintro _ _ ⟨rfl, rfl⟩
          refine ⟨trivial, ?_⟩
          simp only [Act.put, List.setIfInBounds_toArray, List.set_cons_zero, List.set_cons_succ]
          refine ⟨by kernel_rfl, ?_⟩
          simp only [List.drop_succ_cons, List.drop_zero]
          clear hr
          go_wp2_with fail
          obtain ⟨acc', ha, hE⟩ := HE.out HQB.out
          exact ⟨⟨k + 1, acc', _, rfl, by omega, by go_num, ha, hE⟩, by simp only [intOf]; omega⟩
    · have hkk : k = s.size := by omega
      have g0 : decide ((k : Int) < (s.size : Int)) = false := decide_eq_false (by omega)
      obtain ⟨v2, w2, hr, hO2, hB2, hM2⟩ := put_bytes wr w.heap.size v acc [34] hOw hbs (by show acc.length + 1 ≤ _; omega)
      have hr : (Builtin.append_ #[35, 35] 35 #[v, .slice (some ⟨wr.heap.size, 0, none⟩) 1 1]).run Tryd.prog (wr.alloc (.cells #[.int .u8 34] 5)) = .ok v2 w2 := hr
      have hcv3 := text_of hO2
      have hacc2 : acc ++ [34] = Q := by
        rw [HQ.out, hacc, hkk, List.take_of_length_le (by simp)]
        unfold quoteF
        simp
      rw [hacc2] at hcv3
      have HEND : Hid (Below w.heap.size w w2) := Lib.hid ⟨hB2.os.trans hBw.os, hB2.tape.trans hBw.tape, hB2.output.trans hBw.output, Nat.le_trans hbs hB2.size, fun j hj => (hB2.block j (by omega) (by omega) (fun e => by
        rw [hv] at e
        have e : j = gb := Option.some.inj e
        omega)).trans (hBw.block j hj)⟩
      clear hO2 hB2 hM2 hacc2 hacc hv hgb hoz hzk hOw hcv2
      go_wp2_with (at_builtin; refine wpList_append_run rfl (.tmp 43) (.tmp 44) 35 35 rfl _ _ rfl rfl _ w2 hr ?_; clear hr)
      go_ret
      exact ⟨rfl, HEND.out⟩
end Go.Proofs.YtonbfcpbgkpbaaaDoor
end
section
/- A strings.Builder of one's own: what its writers leave: their contracts. -/
namespace Go.Proofs.YtonbfcpbgkpbaaaDoor
open Go.RowKit Go.Sort Go.Joins
set_option linter.unusedVariables false
set_option linter.unusedSimpArgs false
set_option maxRecDepth 100000
theorem infoBld : (Tryd.prog.info? 50).map (·.size) = some 2 := by kernel_rfl
theorem liesBld : liesAt Tryd.prog Tryd.prog.depth 50 (2 / Tryd.prog.cellsOf 50) 0 50 1 = true := by kernel_rfl
theorem strCells_tl (s : ByteArray) : Lib.strCells s = Oc.cellsOf (tl s) := rfl
/-- A text is laid behind what is written: which block turns. -/
theorem put_string (wr : World) (base : Nat) (v : Value) (acc : List UInt8) (s : ByteArray) (h : Oc.OwnS wr base v acc) (hb : base ≤ wr.heap.size) (hn : acc.length + s.size ≤ 140737488355328) :
    ∃ v' w', (Builtin.append_ #[35, 9] 35 #[v, .string s]).run Tryd.prog wr = .ok v' w' ∧ Oc.OwnS w' base v' (acc ++ tl s) ∧ Bu wr.heap.size v.ownBlock wr.heap.size wr w' ∧ Moved v v' wr.heap.size := by
  obtain ⟨i0, hi, hz0, hz1, hz2⟩ := info_parts Oc.info5
  have hgen : ∀ B, B ≤ wr.heap.size → wr.ownsRow B 5 1 v acc.length (Oc.cellsOf acc) → ∃ v' w', (Builtin.append_ #[35, 9] 35 #[v, .string s]).run Tryd.prog wr = .ok v' w' ∧ w'.ownsRow B 5 1 v' (acc.length + s.size) (Oc.cellsOf acc ++ Lib.strCells s) ∧ wr.grownBy w' v.ownBlock := by
    intro B hB ho
    obtain ⟨v', w', h1, h2, h3, _⟩ := Lib.run_append_own_string (P := Tryd.prog) wr B 35 9 35 5 i0 Tryd.underlying35 Tryd.underlying9 hi hz0 hz1 hz2 v acc.length _ ho s (by unfold maxLen; omega) (by omega) hB
    exact ⟨v', w', h1, h2, h3⟩
  have hend : ∀ (B : Nat) (v' : Value) (w' : World), B ≤ B → w'.ownsRow B 5 1 v' (acc.length + s.size) (Oc.cellsOf acc ++ Lib.strCells s) → Oc.OwnS w' B v' (acc ++ tl s) := by
    intro B v' w' _ h
    unfold Oc.OwnS
    rw [List.length_append, tl_len, show Oc.cellsOf (acc ++ tl s) = Oc.cellsOf acc ++ Lib.strCells s by rw [strCells_tl]; unfold Oc.cellsOf; rw [List.map_append]]
    exact h
  have hbu : ∀ w', wr.grownBy w' v.ownBlock → Bu wr.heap.size v.ownBlock wr.heap.size wr w' := fun w' h3 => ⟨h3.os, h3.tape, h3.output, h3.size, fun k hk _ ho => h3.block k hk ho⟩
  rcases h.2 with ⟨hv, h0⟩ | ⟨g, cp, cur, hv, hg, hh, hn2, hm, hcs, ht⟩
  · obtain ⟨v', w', h1, h2, h3⟩ := hgen wr.heap.size (Nat.le_refl _) ⟨h.1, .inl ⟨hv, h0⟩⟩
    refine ⟨v', w', h1, hend base v' w' (Nat.le_refl _) (ownsRow_le h2 hb), hbu w' h3, fun i hi => .inr ?_⟩
    rcases h2.2 with ⟨hv', _⟩ | ⟨b2, cap2, cur2, hv', hbb, _⟩
    · rw [hv'] at hi; cases hi
    · rw [hv'] at hi; cases hi; exact hbb
  · obtain ⟨v', w', h1, h2, h3⟩ := hgen base hb h
    refine ⟨v', w', h1, hend base v' w' (Nat.le_refl _) h2, hbu w' h3, fun i hq => ?_⟩
    subst hv
    by_cases hroom : acc.length + s.size ≤ cp
    · have hr := Lib.run_append_room_string (P := Tryd.prog) wr 35 9 35 5 i0 Tryd.underlying35 Tryd.underlying9 hi hz1 g acc.length cp cur hh s hroom (by omega)
      rw [hr] at h1
      injection h1 with h1 _
      rw [← h1] at hq
      exact .inl hq
    · have holds : ∀ j u, (Oc.cellsOf acc)[j]? = some u → wr.cell? ((⟨g, 0, none⟩ : Addr).add j) = some u := World.ownsRow.cells h (g := g) rfl
      have hr := Lib.run_append_grow_string (P := Tryd.prog) wr 35 9 35 5 i0 _ Tryd.underlying35 Tryd.underlying9 hi hz0 ⟨g, 0, none⟩ acc.length cp (Oc.cellsOf acc) (by rw [hz1]; simp [Oc.cellsOf]) holds s (by omega) (by omega) (by rw [hz2]; exact growslice_fits (by omega) (by omega))
      rw [hr] at h1
      injection h1 with h1 _
      rw [← h1] at hq
      have : wr.heap.size = i := by simpa [Value.ownBlock] using hq
      exact .inr (by omega)
/-- A builder of one's own: its block, its row. -/
structure BI (w : World) (b base : Nat) (v : Value) (acc : List UInt8) : Prop where
  at_ : ∃ p, (p = .pointer none ∨ p = .pointer (some ⟨b, 0, none⟩)) ∧ w.heap[b]? = some (.cells #[p, v] 50 (0, 0))
  row : Oc.OwnS w base v acc
theorem BI.lt {w : World} {b base : Nat} {v : Value} {acc : List UInt8} (h : BI w b base v acc) : b < w.heap.size := by
  obtain ⟨p, _, h⟩ := h.at_
  exact (Array.getElem?_eq_some_iff.1 h).1
theorem BI.ne {w : World} {b base : Nat} {v : Value} {acc : List UInt8} (h : BI w b base v acc) : v.ownBlock ≠ some b := fun hb => by
  obtain ⟨p, _, h1⟩ := h.at_
  rcases h.row.2 with ⟨hv, _⟩ | ⟨g, cp, cur, hv, hg, hh, _⟩
  · rw [hv] at hb; cases hb
  · rw [hv] at hb
    cases hb
    rw [hh] at h1
    injection h1 with h1
    injection h1 with _ h1
    exact absurd h1 (by decide)
theorem copy_fresh (b : Nat) (v : Value) (w : World) (h : w.heap[b]? = some (.cells #[.pointer none, v] 50 (0, 0))) :
    Calls Tryd.prog 46 #[.pointer (some ⟨b, 0, none⟩)] w fun e w' => e = .returned (.tuple #[]) ∧ w' = w.setCell ⟨b, 0, none⟩ (.pointer (some ⟨b, 0, none⟩)) := by
  obtain ⟨j, hj, hjs⟩ := Option.map_eq_some_iff.1 infoBld
  have h0 : w.cell? ⟨b, 0, none⟩ = some (.pointer none) := by rw [cell_of_block h]; rfl
  have hsh : w.shape? b = some (50, 2) := by simp [World.shape?, h]
  have hfz : w.frozen? ⟨b, 0, none⟩ = false := unfrozen_of_block h 0
  clear h
  go_enter Tryd.func46, Tryd.ntmps46
  go_wp2
  rw [Lib.run_to_unsafe w ⟨b, 0, none⟩ Tryd.underlying48 Tryd.underlying112 hj (by rw [hjs]; decide) hsh (Nat.zero_lt_succ 1)]
  simp only [Result.andThen]
  rw [Oper.upon_value]
  go_wp2
  rw [run_callFunc_extern Tryd.func70 (by kernel_rfl) (by kernel_rfl) (by kernel_rfl) (e := Extern.AbiNoEscape.same) (by kernel_rfl)]
  rw [Lib.run_noEscape]
  simp only [Result.andThen]
  rw [Oper.upon_value]
  go_wp2
  rw [Lib.run_from_unsafe w ⟨b, 0, none⟩ Tryd.underlying112 Tryd.underlying48 hj hsh liesBld]
  simp only [Result.andThen]
  rw [Oper.upon_value]
  go_wp2
  go_end0
  exact ⟨rfl, rfl⟩
theorem copy_used (b : Nat) (v : Value) (w : World) (h : w.heap[b]? = some (.cells #[.pointer (some ⟨b, 0, none⟩), v] 50 (0, 0))) :
    Calls Tryd.prog 46 #[.pointer (some ⟨b, 0, none⟩)] w fun e w' => e = .returned (.tuple #[]) ∧ w' = w := by
  obtain ⟨j, hj, _⟩ := Option.map_eq_some_iff.1 infoBld
  have h0 : w.cell? ⟨b, 0, none⟩ = some (.pointer (some ⟨b, 0, none⟩)) := by rw [cell_of_block h]; rfl
  clear h
  go_enter Tryd.func46, Tryd.ntmps46
  go_wp2
  rw [Lib.run_neq_ptr_same w _ Tryd.underlying48 hj]
  go_wp2
  go_end0
  exact ⟨rfl, rfl⟩
theorem BI.mark {w : World} {b base : Nat} {v : Value} {acc : List UInt8} (h : BI w b base v acc) (x : Value) : Oc.OwnS (w.setCell ⟨b, 0, none⟩ x) base v acc := by
  refine ⟨h.row.1, ?_⟩
  rcases h.row.2 with h0 | ⟨g, cp, cur, hv, hg, hh, r⟩
  · exact .inl h0
  · refine .inr ⟨g, cp, cur, hv, hg, ?_, r⟩
    rw [Below.heap_setCell w ⟨b, 0, none⟩ x g (fun e => h.ne (by rw [hv, e]; rfl))]
    exact hh
theorem copy_any (b base : Nat) (v : Value) (acc : List UInt8) (w : World) (h : BI w b base v acc) :
    Calls Tryd.prog 46 #[.pointer (some ⟨b, 0, none⟩)] w fun e w' => e = .returned (.tuple #[]) ∧ w'.heap[b]? = some (.cells #[.pointer (some ⟨b, 0, none⟩), v] 50 (0, 0)) ∧ Oc.OwnS w' base v acc ∧ Bu b v.ownBlock w.heap.size w w' ∧ w'.heap.size = w.heap.size := by
  obtain ⟨p, hp, hb⟩ := h.at_
  rcases hp with rfl | rfl
  · refine (copy_fresh b v w hb).mono ?_
    rintro e w' ⟨rfl, rfl⟩
    exact ⟨rfl, block_setCell hb (i := 0) _, h.mark _, (Bu.refl _ _ _ _).setCell 0 _, by simp [World.setCell]⟩
  · refine (copy_used b v w hb).mono ?_
    rintro e w' ⟨rfl, rfl⟩
    exact ⟨rfl, hb, h.row, Bu.refl _ _ _ _, rfl⟩
theorem BI.wrote {w w1 w2 : World} {b base : Nat} {v v' : Value} {acc acc' : List UInt8} (h : BI w b base v acc) (hb1 : w1.heap[b]? = some (.cells #[.pointer (some ⟨b, 0, none⟩), v] 50 (0, 0))) (h1 : Bu b v.ownBlock w.heap.size w w1) (hs : w1.heap.size = w.heap.size) (h2 : Bu w1.heap.size v.ownBlock w1.heap.size w1 w2) (ho : Oc.OwnS w2 base v' acc') (hm : Moved v v' w1.heap.size) :
    w2.heap[b]? = some (.cells #[.pointer (some ⟨b, 0, none⟩), v] 50 (0, 0)) ∧ BI (w2.setCell ⟨b, 1, none⟩ v') b base v' acc' ∧ Bu b v.ownBlock w.heap.size w (w2.setCell ⟨b, 1, none⟩ v') ∧ Moved v v' w.heap.size := by
  have hlt := h.lt
  have hbb : w2.heap[b]? = some (.cells #[.pointer (some ⟨b, 0, none⟩), v] 50 (0, 0)) := (h2.block b (by omega) (by omega) (fun e => h.ne e.symm)).trans hb1
  have hne : v'.ownBlock ≠ some b := fun hv => by
    rcases hm b hv with h3 | h3
    · exact h.ne h3
    · omega
  refine ⟨hbb, ⟨⟨_, .inr rfl, block_setCell hbb (i := 1) _⟩, ho.1, ?_⟩, ?_, by rw [← hs]; exact hm⟩
  · rcases ho.2 with h0 | ⟨g, cp, cur, hv, hg, hh, r⟩
    · exact .inl h0
    · refine .inr ⟨g, cp, cur, hv, hg, ?_, r⟩
      rw [Below.heap_setCell w2 ⟨b, 1, none⟩ v' g (fun e => hne (by rw [hv, e]; rfl))]
      exact hh
  · have h2' : Bu b v.ownBlock w.heap.size w1 w2 := ⟨h2.os, h2.tape, h2.output, h2.size, fun k hk hkb hko => h2.block k (by omega) (by omega) hko⟩
    exact (h1.trans h2').setCell 1 v'
theorem owns_slice {w : World} {base : Nat} {v : Value} {acc : List UInt8} (h : Oc.OwnS w base v acc) : ∃ a n c, v = .slice a n c := by
  rcases h.2 with ⟨hv, h0⟩ | ⟨g, cp, cur, hv, _⟩
  · exact ⟨none, 0, 0, hv⟩
  · exact ⟨_, _, _, hv⟩
set_option maxHeartbeats 1000000 in
theorem writeByte_any (b base : Nat) (v : Value) (acc : List UInt8) (c : UInt8) (w : World) (h : BI w b base v acc) (hb : base ≤ w.heap.size) (hn : acc.length + 1 ≤ 140737488355328) :
    Calls Tryd.prog 30 #[.pointer (some ⟨b, 0, none⟩), .int .u8 (c.toNat : Nat)] w fun e w' => e = .returned .nilIface ∧ ∃ v', BI w' b base v' (acc ++ [c]) ∧ Bu b v.ownBlock w.heap.size w w' ∧ Moved v v' w.heap.size := by
  go_enter Tryd.func30, Tryd.ntmps30
  go_wp2_with fail
  refine (copy_any b base v acc w h).mono ?_
  rintro e w1 ⟨rfl, hb1, ho1, hbu1, hs1⟩
  obtain ⟨v', w2, hr, ho2, hbu2, hm2⟩ := put_bytes w1 base v acc [c] ho1 (by omega) (by simpa using hn)
  obtain ⟨hb2, hI, hB, hM⟩ := h.wrote hb1 hbu1 hs1 hbu2 ho2 hm2
  have c1 : w1.cell? ⟨b, 1, none⟩ = some v := by rw [cell_of_block hb1]; rfl
  have d1 : w2.cell? ⟨b, 1, none⟩ = some v := by rw [cell_of_block hb2]; rfl
  have f1 : w2.frozen? ⟨b, 1, none⟩ = false := unfrozen_of_block hb2 1
  simp only [List.length_cons, List.length_nil, List.map_cons, List.map_nil, bv, Nat.zero_add] at hr
  rw [hs1] at hr
  obtain ⟨av, nv, cv, rfl⟩ := owns_slice ho2
  clear h hb1 ho1 hbu1 hbu2 hb2 ho2 hm2
  go_wp2_with (at_builtin; refine wpList_append_run rfl (.tmp 11) (.tmp 13) 35 35 rfl _ _ rfl rfl _ w2 hr ?_; clear hr)
  go_ret
  exact ⟨rfl, _, hI, hB, hM⟩
set_option maxHeartbeats 1000000 in
theorem writeString_any (b base : Nat) (v : Value) (acc : List UInt8) (s : ByteArray) (w : World) (h : BI w b base v acc) (hb : base ≤ w.heap.size) (hn : acc.length + s.size ≤ 140737488355328) :
    Calls Tryd.prog 31 #[.pointer (some ⟨b, 0, none⟩), .string s] w fun e w' => e = .returned (.tuple #[.int .i64 (s.size : Nat), .nilIface]) ∧ ∃ v', BI w' b base v' (acc ++ tl s) ∧ Bu b v.ownBlock w.heap.size w w' ∧ Moved v v' w.heap.size := by
  go_enter Tryd.func31, Tryd.ntmps31
  go_wp2_with fail
  refine (copy_any b base v acc w h).mono ?_
  rintro e w1 ⟨rfl, hb1, ho1, hbu1, hs1⟩
  obtain ⟨v', w2, hr, ho2, hbu2, hm2⟩ := put_string w1 base v acc s ho1 (by omega) hn
  obtain ⟨hb2, hI, hB, hM⟩ := h.wrote hb1 hbu1 hs1 hbu2 ho2 hm2
  have c1 : w1.cell? ⟨b, 1, none⟩ = some v := by rw [cell_of_block hb1]; rfl
  have d1 : w2.cell? ⟨b, 1, none⟩ = some v := by rw [cell_of_block hb2]; rfl
  have f1 : w2.frozen? ⟨b, 1, none⟩ = false := unfrozen_of_block hb2 1
  obtain ⟨av, nv, cv, rfl⟩ := owns_slice ho2
  clear h hb1 ho1 hbu1 hbu2 hb2 ho2 hm2
  go_wp2_with (at_builtin; refine wpList_append_run rfl (.tmp 12) (.tmp 13) 35 9 rfl _ _ rfl rfl _ w2 hr ?_; clear hr)
  go_ret2
  exact ⟨rfl, _, hI, hB, hM⟩
end Go.Proofs.YtonbfcpbgkpbaaaDoor
end
section
/- recipe.Print's parts where nothing is printed but the three classes' names: their contracts. -/
namespace Go.Proofs.YtonbfcpbgkpbaaaDoor
open Go.RowKit Go.Sort Go.Joins
set_option linter.unusedVariables false
set_option linter.unusedSimpArgs false
set_option maxRecDepth 100000
set_option maxHeartbeats 1000000 in
theorem string_any (b base : Nat) (v : Value) (acc : List UInt8) (w : World) (h : BI w b base v acc) (h0 : acc ≠ []) (hb : base ≤ w.heap.size) :
    Calls Tryd.prog 20 #[.pointer (some ⟨b, 0, none⟩)] w fun e w' => e = .returned (.string (textOf acc)) ∧ Below base w w' := by
  obtain ⟨p, hp, hbk⟩ := h.at_
  have hl0 : acc.length ≠ 0 := by simpa using h0
  obtain ⟨g, cap, cur, hv, hbg, hg, hnc, hcm, hcs, htake⟩ : ∃ g cap cur, v = .slice (some ⟨g, 0, none⟩) acc.length cap ∧ base ≤ g ∧ w.heap[g]? = some (.cells cur 5 (0, 0)) ∧ acc.length ≤ cap ∧ cap ≤ maxLen ∧ cur.size = cap * 1 ∧ cur.toList.take (acc.length * 1) = Oc.cellsOf acc := by
    rcases h.row.2 with ⟨_, hz⟩ | ⟨g, cap, cur, hv, r⟩
    · exact absurd hz hl0
    · exact ⟨g, cap, cur, hv, r⟩
  subst hv
  have hown := h.row
  have c1 : w.drew.cell? ⟨b, 1, none⟩ = some (.slice (some ⟨g, 0, none⟩) acc.length cap) := by
    have : w.drew.heap[b]? = some (.cells #[p, .slice (some ⟨g, 0, none⟩) acc.length cap] 50 (0, 0)) := hbk
    rw [cell_of_block this]; rfl
  have hSD : (Builtin.unsafeSliceData_ #[35] 81 #[.slice (some ⟨g, 0, none⟩) acc.length cap]).run Tryd.prog w.drew = .ok (.pointer (some ⟨g, 0, none⟩)) w.drew :=
    Lib.run_unsafeSliceData_row _ _ _ _ _ _ (by omega)
  have hUS : (Builtin.unsafeString_ #[81, 3] 9 #[.pointer (some ⟨g, 0, none⟩), .int .i64 (acc.length : Nat)]).run Tryd.prog w.drew = .ok (.string (textOf acc)) (w.drew.freeze ⟨g, 0, none⟩ acc.length) := by
    refine Lib.run_unsafeString_row w.drew 81 3 9 5 Tryd.underlying81 (by kernel_rfl) g cur.size (by have hg' : w.drew.heap[g]? = some (.cells cur 5 (0, 0)) := hg; simp [World.shape?, hg']) acc h0 (by omega) (by unfold maxLen at hcm; omega) ?_
    intro j x hx
    have hj := (List.getElem?_eq_some_iff.1 hx).1
    exact World.ownsRow.cells hown (g := g) rfl j (.int .u8 (x.toNat : Nat)) (by simp [Oc.cellsOf, hx])
  clear h hown hbk hg htake
  go_enter Tryd.func20, Tryd.ntmps20
  go_wp2
  go_region
  all_goals (go_wp2; go_ret; exact ⟨rfl, Lib.below_freeze (Below.drew (Below.refl base w)) (p := ⟨g, 0, none⟩) hbg _⟩)
/-- The first k tokens, a blank between them. -/
def jn (ts : List (List UInt8)) (k : Nat) : List UInt8 := (List.range k).flatMap fun i => (if 0 < i then [32] else []) ++ ts.getD i []
theorem jn_succ (ts : List (List UInt8)) (k : Nat) : jn ts (k + 1) = jn ts k ++ ((if 0 < k then [32] else []) ++ ts.getD k []) := by
  unfold jn
  rw [List.range_succ, List.flatMap_append]
  simp
theorem Bu.more {g : Nat} {w w1 w2 : World} {v v1 : Value} (h1 : Bu g v.ownBlock w.heap.size w w1) (m1 : Moved v v1 w.heap.size) (h2 : Bu g v1.ownBlock w1.heap.size w1 w2) : Bu g v.ownBlock w.heap.size w w2 :=
  ⟨h2.os.trans h1.os, h2.tape.trans h1.tape, h2.output.trans h1.output, Nat.le_trans h1.size h2.size, fun k hk hg ho => (h2.block k (Nat.lt_of_lt_of_le hk h1.size) hg (fun e => by
    rcases m1 k e.symm with h | h
    · exact ho h.symm
    · omega)).trans (h1.block k hk hg ho)⟩
theorem Moved.more {w w1 : World} {v v1 v2 : Value} (m1 : Moved v v1 w.heap.size) (m2 : Moved v1 v2 w1.heap.size) (hs : w.heap.size ≤ w1.heap.size) : Moved v v2 w.heap.size := fun k hk => by
  rcases m2 k hk with h | h
  · exact m1 k h
  · exact .inr (by omega)
theorem tok_kept {w w' : World} {b tb base : Nat} {v : Value} {acc : List UInt8} {cur : Array Value} (h : BI w b base v acc) (hb : Bu b v.ownBlock w.heap.size w w') (hT : w.heap[tb]? = some (.cells cur 9 (0, 0))) : w'.heap[tb]? = some (.cells cur 9 (0, 0)) := by
  have hlt := (Array.getElem?_eq_some_iff.1 hT).1
  rw [hb.block tb hlt ?_ ?_]
  · exact hT
  · rintro rfl
    obtain ⟨p, _, h1⟩ := h.at_
    rw [hT] at h1
    injection h1 with h1
    injection h1 with _ h1
    exact absurd h1 (by decide)
  · intro e
    rcases h.row.2 with ⟨hv, _⟩ | ⟨g, cp, c, hv, hg, hh, _⟩
    · rw [hv] at e; cases e
    · rw [hv] at e
      cases e
      rw [hT] at hh
      injection hh with hh
      injection hh with _ hh
      exact absurd hh (by decide)
set_option maxHeartbeats 2000000 in
theorem writeLine_any (b base : Nat) (v : Value) (acc : List UInt8) (tb c : Nat) (cur : Array Value) (ts : List (List UInt8)) (w : World) (h : BI w b base v acc) (hb : base ≤ w.heap.size) (hT : w.heap[tb]? = some (.cells cur 9 (0, 0))) (hc : ∀ i, i < ts.length → cur[i]? = some (.string (textOf (ts.getD i [])))) (hn : ∀ k, k ≤ ts.length → acc.length + (jn ts k).length + 1 ≤ 140737488355328) (hl : ts.length ≤ 1000000000000) :
    Calls Tryd.prog 16 #[.pointer (some ⟨b, 0, none⟩), .slice (some ⟨tb, 0, none⟩) ts.length c] w fun e w' => e = .returned (.tuple #[]) ∧ ∃ v', BI w' b base v' (acc ++ (jn ts ts.length ++ [10])) ∧ Bu b v.ownBlock w.heap.size w w' ∧ Moved v v' w.heap.size := by
  obtain ⟨n, hnn⟩ : ∃ n, n = ts.length := ⟨_, rfl⟩
  rw [← hnn] at hc hn hl ⊢
  clear hnn
  have HC := Lib.hid hc
  have HN := Lib.hid hn
  have HI := Lib.hid h
  have HT := Lib.hid hT
  clear hc hn h hT
  go_enter Tryd.func16, Tryd.ntmps16
  go_wp2_with fail
  go_loopw [4, 5, 8] (fun x y i wr => ∃ (k : Nat) (v1 : Value), k ≤ n ∧ i = .int .i64 (k : Nat) ∧ BI wr b base v1 (acc ++ jn ts k) ∧ Bu b v.ownBlock w.heap.size w wr ∧ Moved v v1 w.heap.size) (fun _ _ i _ => n - (intOf i).toNat)
  case atStart => exact ⟨0, v, Nat.zero_le _, rfl, by simpa [jn] using HI.out, Bu.refl _ _ _ _, fun i hi => .inl hi⟩
  case round =>
    obtain ⟨k, v1, hk, rfl, hI1, hB1, hM1⟩ := hrel
    by_cases hlt : k < n
    · have hTw := tok_kept HI.out hB1 HT.out
      have hcell : wr.cell? ⟨tb, k, none⟩ = some (.string (textOf (ts.getD k []))) := by rw [cell_of_block hTw]; exact HC.out k hlt
      have hnk := HN.out (k + 1) (by omega)
      rw [jn_succ] at hnk
      have HJ := Lib.hid (jn_succ ts k)
      have hbw : base ≤ wr.heap.size := Nat.le_trans hb hB1.size
      have hzt : (textOf (ts.getD k [])).size = (ts.getD k []).length := by simp [textOf, ByteArray.size]
      have HTL : Hid (tl (textOf (ts.getD k [])) = ts.getD k []) := Lib.hid (by simp [tl, textOf])
      obtain ⟨x, hx⟩ : ∃ x, x = textOf (ts.getD k []) := ⟨_, rfl⟩
      rw [← hx] at hcell HTL hzt
      by_cases h0 : 0 < k
      · rw [if_pos h0] at hnk HJ
        simp only [List.length_append, List.length_cons, List.length_nil] at hnk
        have hW := writeByte_any b base v1 (acc ++ jn ts k) 32 wr hI1 hbw (by rw [List.length_append]; omega)
        have HB1 := Lib.hid hB1
        have HM1 := Lib.hid hM1
        have HX := Lib.hid hx
        have HZ := Lib.hid hzt
        have d0 : decide ((0 : Int) < (k : Int)) = true := decide_eq_true (by omega)
        clear hI1 hB1 hM1 hTw hx hzt
        go_wp2_with fail
        refine hW.mono ?_
        rintro e w2 ⟨rfl, v2, hI2, hB2, hM2⟩
        have hB2' := HB1.out.more HM1.out hB2
        have hM2' := HM1.out.more hM2 HB1.out.size
        have hbw2 : base ≤ w2.heap.size := Nat.le_trans hb hB2'.size
        have hW2 := writeString_any b base v2 _ x w2 hI2 hbw2 (by rw [List.length_append, List.length_append, HZ.out]; simp only [List.length_cons, List.length_nil]; omega)
        have HB2 := Lib.hid hB2'
        have HM2 := Lib.hid hM2'
        clear hW hI2 hB2 hM2 hB2' hM2'
        go_wp2_with fail
        refine hW2.mono ?_
        rintro e w3 ⟨rfl, v3, hI3, hB3, hM3⟩
        clear hW2
        go_wp2_with fail
        go_roundw
        case rel =>
          refine ⟨k + 1, v3, by omega, by go_num, ?_, HB2.out.more HM2.out hB3, HM2.out.more hM3 HB2.out.size⟩
          rw [HJ.out]
          rw [HTL.out] at hI3
          simpa [List.append_assoc] using hI3
        case measure => simp only [intOf]; omega
      · obtain rfl : k = 0 := by omega
        rw [if_neg h0] at hnk HJ
        simp only [List.length_append, List.nil_append] at hnk
        have hW2 := writeString_any b base v1 _ x wr hI1 hbw (by rw [List.length_append, hzt]; omega)
        have HB1 := Lib.hid hB1
        have HM1 := Lib.hid hM1
        have HX := Lib.hid hx
        clear hI1 hB1 hM1 hTw hx hzt
        go_wp2_with fail
        refine hW2.mono ?_
        rintro e w3 ⟨rfl, v3, hI3, hB3, hM3⟩
        clear hW2
        go_wp2_with fail
        go_roundw
        case rel =>
          refine ⟨1, v3, by omega, by go_num, ?_, HB1.out.more HM1.out hB3, HM1.out.more hM3 HB1.out.size⟩
          rw [HJ.out]
          rw [HTL.out] at hI3
          simpa [List.append_assoc] using hI3
        case measure => simp only [intOf]; omega
    · obtain rfl : k = n := by omega
      have hnk := HN.out k (Nat.le_refl _)
      have hbw : base ≤ wr.heap.size := Nat.le_trans hb hB1.size
      have hW := writeByte_any b base v1 (acc ++ jn ts k) 10 wr hI1 hbw (by rw [List.length_append]; omega)
      have HB1 := Lib.hid hB1
      have HM1 := Lib.hid hM1
      clear hI1 hB1 hM1
      go_wp2_with fail
      refine hW.mono ?_
      rintro e w2 ⟨rfl, v2, hI2, hB2, hM2⟩
      clear hW
      go_wp2_with fail
      go_end0
      exact ⟨rfl, v2, by simpa [List.append_assoc] using hI2, HB1.out.more HM1.out hB2, HM1.out.more hM2 HB1.out.size⟩
end Go.Proofs.YtonbfcpbgkpbaaaDoor
end
section
/- recipe.areUnlike of none: its contract. -/
namespace Go.Proofs.YtonbfcpbgkpbaaaDoor
open Go.RowKit Go.Sort Go.Joins
set_option linter.unusedVariables false
set_option linter.unusedSimpArgs false
set_option maxRecDepth 100000
theorem len_map (w : World) (b : Nat) (h : w.heap[b]? = some (.map #[] 0)) : (Builtin.len_ #[68] 3 #[.map (some b)]).run Tryd.prog w = .ok (.int .i64 0) w := by
  simp [Builtin.len_, Builtin.lenOf, goInt]
  rw [show (getObj b).run Tryd.prog w = .ok (.map #[] 0) w by simp [getObj, Sem.run, h]]
  rfl
set_option maxHeartbeats 1000000 in
theorem unlike_nil (w : World) : Calls Tryd.prog 13 #[.slice none 0 0] w fun e w' => e = .returned (.bool true) ∧ Below w.heap.size w w' := by
  have hmm := @run_makeMap Tryd.prog
  have hn := heap_alloc_new w (.map #[] 0)
  have hb := box_below w (.map #[] 0)
  obtain ⟨X, hX⟩ : ∃ X, X = w.alloc (.map #[] 0) := ⟨_, rfl⟩
  rw [← hX] at hn hb
  have HX := Lib.hid hX
  clear hX
  go_enter Tryd.func13, Tryd.ntmps13
  go_wp2_with fail
  rw [← HX.out]
  go_loopw [4, 5, 9] (fun x y i wr => i = .int .i64 0 ∧ wr = X) (fun _ _ _ _ => 0)
  case atStart => exact ⟨rfl, rfl⟩
  case round =>
    obtain ⟨rfl, hw⟩ := hrel
    rw [hw]
    have hlm := len_map X w.heap.size hn
    go_wp2_with fail
    go_ret
    exact ⟨rfl, hb⟩
end Go.Proofs.YtonbfcpbgkpbaaaDoor
end
section
/- recipe.areMade of none: its contract. -/
namespace Go.Proofs.YtonbfcpbgkpbaaaDoor
open Go.RowKit Go.Sort Go.Joins
set_option linter.unusedVariables false
set_option linter.unusedSimpArgs false
set_option maxRecDepth 100000
theorem infoBool : (Tryd.prog.info? 4).map (fun i => (i.zero, i.size, i.bytes)) = some (some (.bool false), 1, 1) := by kernel_rfl
theorem make_bools : ∃ Z : Array Value, Z.size = 256 ∧ ∀ u : World, (Instr.makeSlice 69 (.int .i64 256) (.int .i64 256)).run Tryd.prog u = .ok (.slice (some ⟨u.heap.size, 0, none⟩) 256 256) (u.alloc (.cells Z 4)) := by
  obtain ⟨i0, hi, hz0, hz1, hz2⟩ := info_parts infoBool
  refine ⟨madeCells (Value.bool false).cells (256 * i0.size), by rw [hz1]; simp [madeCells], fun u => ?_⟩
  exact run_make (P := Tryd.prog) u 69 4 i0 _ Tryd.underlying69 hi hz0 .i64 .i64 256 256 (by omega) (Int.le_refl _) (by rw [hz2]; omega) (by omega)
/-- What stands between two marks. -/
def MR (w wr : World) : Prop := (∃ cur, wr.heap[w.heap.size]? = some (.cells cur 4 (0, 0)) ∧ cur.size = 256) ∧ wr.heap[w.heap.size + 1]? = some (.cells #[.slice (some ⟨w.heap.size, 0, none⟩) 256 256] 69 (0, 0)) ∧ Below w.heap.size w wr
theorem MR.step {w wr : World} (h : MR w wr) (k : Nat) (v : Value) : MR w (wr.setCell ⟨w.heap.size, k, none⟩ v) := by
  obtain ⟨⟨cur, h1, h2⟩, h3, h4⟩ := h
  refine ⟨⟨_, block_setCell h1 (i := k) v, ?_⟩, ?_, h4.setCell (p := ⟨w.heap.size, k, none⟩) (Nat.le_refl _) v⟩
  · simp [h2]
  · rw [Below.heap_setCell wr ⟨w.heap.size, k, none⟩ v (w.heap.size + 1) (by show w.heap.size + 1 ≠ w.heap.size; omega)]
    exact h3
set_option maxHeartbeats 2000000 in
theorem made_nil (wo : Value) (w : World) : Calls Tryd.prog 14 #[.slice none 0 0, wo] w fun e w' => e = .returned (.bool true) ∧ Below w.heap.size w w' := by
  obtain ⟨Z, hZ, hmk⟩ := make_bools
  have hM : MR w ((w.alloc (.cells Z 4)).alloc (.cells #[.slice (some ⟨w.heap.size, 0, none⟩) 256 256] 69)) := by
    refine ⟨⟨Z, ?_, hZ⟩, ?_, (box_below w _).trans ((box_below _ _).mono (by simp))⟩
    · rw [Below.heap_alloc _ _ _ (by simp)]
      exact heap_alloc_new w _
    · have := heap_alloc_new (w.alloc (.cells Z 4)) (.cells #[.slice (some ⟨w.heap.size, 0, none⟩) 256 256] 69)
      rwa [World.size_alloc] at this
  obtain ⟨X, hX⟩ : ∃ X, X = (w.alloc (.cells Z 4)).alloc (.cells #[.slice (some ⟨w.heap.size, 0, none⟩) 256 256] 69) := ⟨_, rfl⟩
  rw [← hX] at hM
  have HX := Lib.hid hX
  have HM := Lib.hid hM
  have hmf : ∀ (fn : Fn) (first cap : Array Value) (w : World), (Instr.makeFunc fn first cap).run Tryd.prog w = .ok (.func fn first cap) w := fun _ _ _ _ => rfl
  clear hX hM hZ
  go_enter Tryd.func14, Tryd.ntmps14
  go_wp2_with fail
  rw [← HX.out]
  clear hmk HX
  go_loopw [6, 16] (fun x i wr => ∃ k : Nat, k ≤ 256 ∧ i = .int .i64 (k : Nat) ∧ MR w wr) (fun _ i _ => 256 - (intOf i).toNat)
  case atStart => exact ⟨0, Nat.zero_le _, rfl, HM.out⟩
  case round =>
    obtain ⟨k, hk, rfl, hM⟩ := hrel
    by_cases hlt : k < 256
    · obtain ⟨⟨cur, h1, h2⟩, h3, h4⟩ := hM
      have HN := Lib.hid (MR.step ⟨⟨cur, h1, h2⟩, h3, h4⟩ k (.bool true))
      have c0 : wr.cell? ⟨w.heap.size + 1, 0, none⟩ = some (.slice (some ⟨w.heap.size, 0, none⟩) 256 256) := by rw [cell_of_block h3]; rfl
      obtain ⟨old, hold⟩ : ∃ old, wr.cell? ⟨w.heap.size, k, none⟩ = some old := ⟨cur[k], by rw [cell_of_block h1, Array.getElem?_eq_getElem]⟩
      have f0 : wr.frozen? ⟨w.heap.size, k, none⟩ = false := unfrozen_of_block h1 k
      clear h1 h2 h3 h4
      go_wp2_with fail
      go_roundw
      case rel => exact ⟨k + 1, by omega, by go_num, HN.out⟩
      case measure => simp only [intOf]; omega
    · obtain rfl : k = 256 := by omega
      have HB := Lib.hid hM.2.2
      clear hM
      go_wp2_with fail
      go_loopw [26] (fun i wx => i = .int .i64 0 ∧ wx = wr) (fun _ _ => 0)
      case atStart => exact ⟨rfl, rfl⟩
      case round =>
        obtain ⟨rfl, hw⟩ := hrel
        rw [hw]
        go_wp2_with fail
        go_ret
        exact ⟨rfl, HB.out⟩
end Go.Proofs.YtonbfcpbgkpbaaaDoor
end
section
/- How often a byte stands in a text, where the last one stands: strings.Count, strings.LastIndex of one byte. -/
namespace Go.Proofs.YtonbfcpbgkpbaaaDoor
open Go.RowKit
set_option linter.unusedVariables false
set_option linter.unusedSimpArgs false
set_option maxRecDepth 100000
theorem count_one (s : ByteArray) (c : UInt8) (w : World) :
    Calls Tryd.prog 35 #[.string s, .string ⟨#[c]⟩] w fun e w' => e = .returned (.int .i64 (Lib.countByte s.data.toList c)) ∧ w' = w := by
  go_enter Tryd.func35, Tryd.ntmps35
  go_wp2
  rw [run_callFunc_extern Tryd.func49 (by kernel_rfl) (by kernel_rfl) (by kernel_rfl) (e := Extern.BytealgCount.count) (by kernel_rfl), Lib.run_countString]
  simp only [Result.andThen]
  rw [Oper.upon_value]
  go_wp2
  go_ret
  exact ⟨rfl, rfl⟩
set_option maxHeartbeats 4000000 in
theorem lastbyte_any (s : ByteArray) (c : UInt8) (hs : s.size < 4611686018427387904) (w : World) :
    Calls Tryd.prog 55 #[.string s, .int .u8 (c.toNat : Int)] w fun e w' => e = .returned (.int .i64 (Lib.lastIndexByte s (c.toNat : Int))) ∧ w' = w := by
  obtain ⟨n, hn⟩ : ∃ n, n = s.size := ⟨_, rfl⟩
  obtain ⟨cc, hcc⟩ : ∃ cc : Int, cc = (c.toNat : Int) := ⟨_, rfl⟩
  rw [← hcc]
  clear hcc
  go_enter Tryd.func55, Tryd.ntmps55
  go_wp2
  go_loop [5] (fun vi => ∃ k : Nat, k ≤ s.size ∧ vi = .int .i64 ((k : Int) - 1) ∧ Hid (Lib.lastIndexByte s cc = Lib.lastIdx s cc k)) (fun vi => ((RowKit.intOf vi) + 1).toNat)
  case atStart => exact ⟨s.size, Nat.le_refl _, by first | rfl | go_num | (congr 1; omega), rfl⟩
  case round =>
    obtain ⟨k, hk, rfl, hh⟩ := hrel
    go_wp2
    · have hc : (((s[k - 1]).toNat : Int) == cc) = true := by assumption
      have k1 : 1 ≤ k := by omega
      have e1 : Lib.lastIdx s cc k = ((k - 1 : Nat) : Int) := by
        have := Lib.lastIdx_hit s cc (k - 1) (by rw [show s.data[k - 1]! = s[k - 1] from (getElem!_pos s.data (k - 1) (by simpa using by omega)).trans rfl]; simpa using hc)
        rwa [show k - 1 + 1 = k by omega] at this
      go_ret
      have e2 : ((k - 1 : Nat) : Int) = (k : Int) - 1 := by omega
      rw [hh.out, e1, e2]
      exact ⟨rfl, rfl⟩
    · have hc : (((s[k - 1]).toNat : Int) == cc) = false := by assumption
      have k1 : 1 ≤ k := by omega
      have e1 : Lib.lastIdx s cc k = Lib.lastIdx s cc (k - 1) := by
        have := Lib.lastIdx_miss s cc (k - 1) (by rw [show s.data[k - 1]! = s[k - 1] from (getElem!_pos s.data (k - 1) (by simpa using by omega)).trans rfl]; simpa using hc)
        rwa [show k - 1 + 1 = k by omega] at this
      refine ⟨⟨k - 1, by omega, by congr 1; omega, hh.out.trans e1⟩, ?_⟩
      simp [RowKit.intOf]; omega
    · have k0 : k = 0 := by omega
      subst k0
      go_ret
      rw [hh.out]
      exact ⟨rfl, rfl⟩
theorem last_one (s : ByteArray) (c : UInt8) (hs : s.size < 4611686018427387904) (w : World) :
    Calls Tryd.prog 37 #[.string s, .string ⟨#[c]⟩] w fun e w' => e = .returned (.int .i64 (Lib.lastIndexByte s (c.toNat : Int))) ∧ w' = w := by
  have HC := lastbyte_any s c hs w
  go_enter Tryd.func37, Tryd.ntmps37
  go_wp2_with fail
  refine HC.mono ?_
  rintro e w' ⟨rfl, rfl⟩
  go_wp2_with fail
  go_ret
  exact ⟨rfl, rfl⟩
end Go.Proofs.YtonbfcpbgkpbaaaDoor
end
section
/- utf.front: what its paths need. -/
namespace Go.Proofs.YtonbfcpbgkpbaaaDoor
open Go.RowKit
theorem not_empty (s : ByteArray) (h : 0 < s.size) : s.toList.isEmpty = false := by
  rw [ByteArray.toList_eq]
  cases hl : s.data.toList with
  | nil =>
    have : s.data.toList.length = s.size := by simp
    rw [hl] at this
    simp at this
    omega
  | cons a l => rfl
theorem stands_lit (s : ByteArray) (i lo hi : Nat) (i' lo' hi' : Int) (e1 : (i : Int) = i') (e2 : (lo : Int) = lo') (e3 : (hi : Int) = hi') (w : World) :
    Calls Tryd.prog 76 #[.string s, .int .i64 i', .int .u8 lo', .int .u8 hi'] w fun e w' => e = .returned (.bool (stands (tl s) i lo hi)) ∧ w' = w := by
  subst e1 e2 e3; exact stands_any s i lo hi w
theorem bt_zero (s : ByteArray) (h : 0 < s.size) : bt (tl s) 0 = (s[0]).toNat := by
  unfold bt
  rw [List.getD_eq_getElem?_getD, List.getElem?_eq_getElem (by simpa using h)]
  rfl
end Go.Proofs.YtonbfcpbgkpbaaaDoor
end
