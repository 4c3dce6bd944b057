import Derived.Test.YtonbfcpbgkpbaaaGreatDoorJ9
import Derived.Test.YtonbfcpbgkpbaaaGreatDoorJ1
import Derived.Test.YtonbfcpbgkpbaaaGreatDoorJ0
import Derived.Test.YtonbfcpbgkpbaaaGreatDoorJ2
import Derived.Lib.Builder
import Derived.Lib.AppendStr
import Derived.Lib.UnsafeStr
import Derived.Laws.Externs
section
/- recipe.Quote and the reader's own: their contracts. -/
namespace Go.Proofs.YtonbfcpbgkpbaaaGreatDoor
open Go.RowKit Go.Sort Go.Joins
set_option linter.unusedVariables false
set_option linter.unusedSimpArgs false
set_option maxRecDepth 100000
def hexC (n : Nat) : UInt8 := UInt8.ofNat (if n < 10 then 48 + n else 87 + n)
/-- A byte as a word has it. -/
def quoteB (c : UInt8) : List UInt8 := if c.toNat = 34 ∨ c.toNat = 92 then [92, c] else if 32 ≤ c.toNat ∧ c.toNat ≤ 126 then [c] else [92, hexC (c.toNat / 16), hexC (c.toNat % 16)]
def quoteF (l : List UInt8) : List UInt8 := 34 :: (l.flatMap quoteB ++ [34])
theorem quoteB_len (c : UInt8) : (quoteB c).length ≤ 3 := by
  unfold quoteB
  split
  · simp
  · split <;> simp
theorem quoteT_len (l : List UInt8) : (l.flatMap quoteB).length ≤ 3 * l.length := by
  induction l with
  | nil => simp
  | cons c l ih => rw [List.flatMap_cons, List.length_append, List.length_cons]; have := quoteB_len c; omega
theorem index_hex (n : Nat) (h : n < 16) (w : World) : (Instr.index 9 (.string ⟨#[48, 49, 50, 51, 52, 53, 54, 55, 56, 57, 97, 98, 99, 100, 101, 102]⟩) (.int .u8 (n : Nat))).run Tryz.prog w = .ok (.int .u8 ((hexC n).toNat : Nat)) w := by
  have : n = 0 ∨ n = 1 ∨ n = 2 ∨ n = 3 ∨ n = 4 ∨ n = 5 ∨ n = 6 ∨ n = 7 ∨ n = 8 ∨ n = 9 ∨ n = 10 ∨ n = 11 ∨ n = 12 ∨ n = 13 ∨ n = 14 ∨ n = 15 := by omega
  rcases this with rfl | rfl | rfl | rfl | rfl | rfl | rfl | rfl | rfl | rfl | rfl | rfl | rfl | rfl | rfl | rfl <;> (show _ = _; kernel_rfl)
theorem index_exec (n : Nat) (h : n < 16) (o : Oper) (x : Operand) (hop : o.op = Op.index 9 (.const (.string ⟨#[48, 49, 50, 51, 52, 53, 54, 55, 56, 57, 97, 98, 99, 100, 101, 102]⟩)) x) (a : Act) (hx : a.eval x = .int .u8 (n : Nat)) (w : World) : (execOp a.eval o).run Tryz.prog w = .ok (.value (.int .u8 ((hexC n).toNat : Nat))) w := by
  have hi := index_hex n h w
  have hc : a.eval (.const (.string ⟨#[48, 49, 50, 51, 52, 53, 54, 55, 56, 57, 97, 98, 99, 100, 101, 102]⟩)) = .string ⟨#[48, 49, 50, 51, 52, 53, 54, 55, 56, 57, 97, 98, 99, 100, 101, 102]⟩ := rfl
  simp only [execOp, hop, hx, hc, Sem.run_bind, hi, Result.andThen]
  rfl
theorem and_15 : ∀ n : Nat, n < 256 → bits BinOp.and IntKind.u8 (n : Int) 15 = ((n % 16 : Nat) : Int) := by decide
theorem own_row (W : World) (r : List UInt8) : Oc.BS (W.alloc (.cells (r.map fun c => Value.int .u8 (c.toNat : Int)).toArray 5)) (some ⟨W.heap.size, 0, none⟩) r := Oc.BS.new W r 5
def bv (c : UInt8) : Value := .int .u8 (c.toNat : Int)
/-- Bytes are laid behind what is written: which block turns. -/
theorem put_bytes (wr : World) (base : Nat) (v : Value) (acc r : List UInt8) (h : Oc.OwnS wr base v acc) (hb : base ≤ wr.heap.size) (hn : acc.length + r.length ≤ 140737488355328) :
    ∃ v' w', (Builtin.append_ #[50, 50] 50 #[v, .slice (some ⟨wr.heap.size, 0, none⟩) r.length r.length]).run Tryz.prog (wr.alloc (.cells (r.map bv).toArray 5)) = .ok v' w' ∧ Oc.OwnS w' base v' (acc ++ r) ∧ Bu wr.heap.size v.ownBlock wr.heap.size wr w' ∧ Moved v v' wr.heap.size := by
  obtain ⟨i0, hi, hz0, hz1, hz2⟩ := info_parts Oc.info5
  have hbx : Below wr.heap.size wr (wr.alloc (.cells (r.map bv).toArray 5)) := box_below wr _
  have hown : Oc.OwnS (wr.alloc (.cells (r.map bv).toArray 5)) base v acc := h.below hbx (Nat.le_refl _)
  have hx := heap_alloc_new wr (.cells (r.map bv).toArray 5)
  obtain ⟨W, hW⟩ : ∃ W, W = wr.alloc (.cells (r.map bv).toArray 5) := ⟨_, rfl⟩
  have hsz : W.heap.size = wr.heap.size + 1 := by rw [hW]; simp
  rw [← hW] at hbx hown hx ⊢
  have hc : ∀ j u, (r.map bv)[j]? = some u → W.cell? ((⟨wr.heap.size, 0, none⟩ : Addr).add j) = some u := by
    intro j u hu
    rw [cell_add, Nat.zero_add, cell_of_block hx]
    simpa using hu
  have h1c : ∀ u ∈ r.map bv, u.oneCell' = true := by
    intro u hu
    obtain ⟨c, -, rfl⟩ := List.mem_map.1 hu
    rfl
  have hend : ∀ (v' : Value) (w' : World), w'.ownsRow base 5 1 v' (acc.length + r.length) (acc.map bv ++ r.map bv) → Oc.OwnS w' base v' (acc ++ r) := by
    intro v' w' h
    unfold Oc.OwnS Oc.cellsOf
    rw [List.length_append, List.map_append]
    exact h
  have hfin : ∀ (v' : Value) (w' : World), W.grownBy w' v.ownBlock → (∀ b, v'.ownBlock = some b → v.ownBlock = some b ∨ W.heap.size ≤ b) → Bu wr.heap.size v.ownBlock wr.heap.size wr w' ∧ Moved v v' wr.heap.size := by
    intro v' w' h3 h4
    refine ⟨⟨h3.os.trans hbx.os, h3.tape.trans hbx.tape, h3.output.trans hbx.output, Nat.le_trans hbx.size h3.size, fun k hk hne ho => (h3.block k (by omega) ho).trans (hbx.block k hk)⟩, fun b hbb => ?_⟩
    rcases h4 b hbb with h | h
    · exact .inl h
    · exact .inr (by omega)
  rcases hown.2 with ⟨rfl, h0⟩ | ⟨g, cp, cur, rfl, hg, hh, hn2, hm, hcs, ht⟩
  · obtain ⟨v', w', h1, h2, h3, _⟩ := run_append_own (P := Tryz.prog) W W.heap.size 50 50 5 i0 _ 1 1 Tryz.underlying50 hi hz0 hz1 hz2 (by simp [Value.cells]) (by decide) (.slice none 0 0) acc.length (acc.map bv) ⟨hown.1, .inl ⟨rfl, h0⟩⟩ ⟨wr.heap.size, 0, none⟩ r.length r.length (r.map bv) (by simp) hc h1c (by unfold maxLen; omega) (by omega) (Nat.le_refl _)
    refine ⟨v', w', h1, hend v' w' (ownsRow_le h2 (by omega)), hfin v' w' h3 fun i hi => .inr ?_⟩
    rcases h2.2 with ⟨hv, _⟩ | ⟨b2, cap2, cur2, hv, hbb, _⟩
    · rw [hv] at hi; cases hi
    · rw [hv] at hi; cases hi; exact hbb
  · by_cases hroom : acc.length + r.length ≤ cp
    · obtain ⟨w', h1, h2, h3⟩ := run_append_fits (P := Tryz.prog) W base 50 50 5 i0 1 Tryz.underlying50 hi hz1 g acc.length cp (acc.map bv) hown ⟨wr.heap.size, 0, none⟩ r.length r.length (r.map bv) (by simp) hc h1c hroom
      exact ⟨_, w', h1, hend _ w' h2, hfin _ w' h3 (fun i hi => .inl hi)⟩
    · obtain ⟨v', w', h1, h2, h3⟩ := run_append_arg_grows (P := Tryz.prog) W 50 50 5 i0 _ 1 1 Tryz.underlying50 hi hz0 hz1 hz2 (by simp [Value.cells]) (by decide) ⟨g, 0, none⟩ acc.length cp (acc.map bv) (by simp) (fun j u hu => by
        have hj : j < acc.length * 1 := by have := (List.getElem?_eq_some_iff.1 hu).1; simpa using this
        rw [cell_add, Nat.zero_add, World.ownsRow.cellAt hown j hj]; exact hu) ⟨wr.heap.size, 0, none⟩ r.length r.length (r.map bv) (by simp) hc (by omega) (by unfold maxLen; omega) (by omega)
      have h3' : W.grownBy w' (Value.slice (some ⟨g, 0, none⟩) acc.length cp).ownBlock := ⟨h3.os, h3.tape, h3.output, h3.size, fun j hj _ => h3.block j hj (by simp)⟩
      refine ⟨v', w', h1, hend v' w' (ownsRow_le h2 (by omega)), hfin v' w' h3' fun i hi => .inr ?_⟩
      rcases h2.2 with ⟨hv, _⟩ | ⟨b2, cap2, cur2, hv, hbb, _⟩
      · rw [hv] at hi; cases hi
      · rw [hv] at hi; cases hi; exact hbb
set_option maxHeartbeats 2000000 in
theorem quote_any (s : ByteArray) (w : World) (hs : s.size ≤ 4194304) :
    Calls Tryz.prog 10 #[.string s] w fun e w' => e = .returned (.string (textOf (quoteF (tl s)))) ∧ Below w.heap.size w w' := by
  obtain ⟨Q, hQ⟩ : ∃ Q, Q = quoteF (tl s) := ⟨_, rfl⟩
  rw [← hQ]
  have HQ := Lib.hid hQ
  have hb0 := box_below w (.cells #[.int .u8 34] 5)
  have hO0 : Oc.OwnS (w.alloc (.cells #[.int .u8 34] 5)) w.heap.size (.slice (some ⟨w.heap.size, 0, none⟩) 1 1) [34] := ⟨rfl, .inr ⟨w.heap.size, 1, _, rfl, Nat.le_refl _, heap_alloc_new w _, Nat.le_refl _, by decide, rfl, rfl⟩⟩
  obtain ⟨w1, hw1⟩ : ∃ w1, w1 = w.alloc (.cells #[.int .u8 34] 5) := ⟨_, rfl⟩
  rw [← hw1] at hb0 hO0
  have HW1 := Lib.hid hw1
  have hcv := Lib.run_convert_string_bytes (P := Tryz.prog) w1 9 50 5 s Tryz.underlying9 Tryz.underlying50 Tryz.underlying5
  have hcell := Lib.bytesWorld_cell w1 5 s
  have hbl := bytesWorld_below w1 s
  obtain ⟨z, hz⟩ : ∃ z, z = w1.heap.size := ⟨_, rfl⟩
  obtain ⟨W, hW⟩ : ∃ W, W = Lib.bytesWorld w1 5 s := ⟨_, rfl⟩
  rw [← hW] at hcell hbl
  rw [← hz] at hcell
  obtain ⟨cp, hcp⟩ : ∃ cp, cp = grownCap w1 s.size 0 5 := ⟨_, rfl⟩
  have hcv2 : (convert 9 50 (.string s)).run Tryz.prog (w.alloc (.cells #[.int .u8 34] 5)) = .ok (.slice (some ⟨z, 0, none⟩) s.size cp) W := by rw [← hw1, hz, hW, hcp]; exact hcv
  have hO1 := hO0.below hbl (Nat.le_refl _)
  have hb1 := hb0.trans (hbl.mono hb0.size)
  have hzz : z = w.heap.size + 1 := by rw [hz, hw1]; simp
  have HC := Lib.hid hcell
  have HZZ := Lib.hid hzz
  have HO := Lib.hid hO1
  have HB := Lib.hid hb1
  clear hQ hw1 hcell hbl hz hW hO0 hb0 hO1 hb1 hcv hcp hzz
  go_enter Tryz.func10, Tryz.ntmps10
  go_wp2_with fail
  go_loopw [3, 10] (fun sv i wr => ∃ (k : Nat) (acc : List UInt8) (v : Value), v = sv ∧ k ≤ s.size ∧ i = .int .i64 (k : Nat) ∧ acc = 34 :: ((tl s).take k).flatMap quoteB ∧ Oc.OwnS wr w.heap.size v acc ∧ Below w.heap.size w wr ∧ wr.heap[z]? = W.heap[z]? ∧ (∀ i, v.ownBlock = some i → i ≠ z)) (fun _ i _ => s.size - (intOf i).toNat)
  case atStart => exact ⟨0, [34], _, rfl, Nat.zero_le _, rfl, rfl, HO.out, HB.out, rfl, fun i hi => by have hi : w.heap.size = i := Option.some.inj hi; have := HZZ.out; omega⟩
  case round =>
    obtain ⟨k, acc, v, rfl, hk, rfl, hacc, hOw, hBw, hzk, hoz⟩ := hrel
    have hal : acc.length ≤ 12582913 := by
      rw [hacc, List.length_cons]
      have := quoteT_len ((tl s).take k)
      rw [List.length_take] at this
      omega
    have hap : 0 < acc.length := by rw [hacc]; simp
    obtain ⟨gb, cap, hv, hgb, -⟩ := hOw.form hap
    have hbs := hBw.size
    by_cases hlt : k < s.size
    · have hkl : k < (tl s).length := by simpa using hlt
      have g0 : decide ((k : Int) < (s.size : Int)) = true := decide_eq_true (by omega)
      have ck0 := HC.out k hlt
      rw [show s.data.toList.getD k 0 = (tl s)[k] by simp [List.getD, hlt]] at ck0
      have hzW : z < W.heap.size := World.block_lt_of_cell? W _ ck0
      have hzr : z < wr.heap.size := by
        obtain ⟨o, ho⟩ : ∃ o, W.heap[z]? = some o := ⟨_, Array.getElem?_eq_getElem hzW⟩
        exact (Array.getElem?_eq_some_iff.1 (hzk.trans ho)).1
      have ck : wr.cell? ⟨z, k, none⟩ = some (.int .u8 (((tl s)[k]).toNat : Int)) := by
        rw [← ck0]; unfold World.cell?; simp only [hzk]
      obtain ⟨c, hc⟩ : ∃ c, c = (tl s)[k] := ⟨_, rfl⟩
      have hs1 : 34 :: ((tl s).take (k + 1)).flatMap quoteB = acc ++ quoteB c := by
        rw [List.take_succ_eq_append_getElem hkl, List.flatMap_append, hacc, hc]
        simp
      rw [← hc] at ck
      have HST : Hid (∀ (v2 : Value) (w2 : World) (r : List UInt8), Oc.OwnS w2 w.heap.size v2 (acc ++ r) → Bu wr.heap.size v.ownBlock wr.heap.size wr w2 → Moved v v2 wr.heap.size → quoteB c = r → ∃ acc', acc' = 34 :: ((tl s).take (k + 1)).flatMap quoteB ∧ Oc.OwnS w2 w.heap.size v2 acc' ∧ Below w.heap.size w w2 ∧ w2.heap[z]? = W.heap[z]? ∧ (∀ i, v2.ownBlock = some i → i ≠ z)) := Lib.hid (fun v2 w2 r h1 h2 h3 hq => by
        refine ⟨_, hs1.symm, by rw [hq]; exact h1, ?_, ?_, ?_⟩
        · refine ⟨h2.os.trans hBw.os, h2.tape.trans hBw.tape, h2.output.trans hBw.output, Nat.le_trans hbs h2.size, fun j hj => ?_⟩
          refine (h2.block j (by omega) (by omega) ?_).trans (hBw.block j hj)
          intro e
          rw [hv] at e
          have e : j = gb := Option.some.inj e
          omega
        · exact (h2.block z hzr (by omega) (fun e => hoz z e.symm rfl)).trans hzk
        · intro i hi
          rcases h3 i hi with h | h
          · exact hoz i h
          · omega)
      have hb8 : c.toNat < 256 := UInt8.toNat_lt c
      clear hs1 hc ck0 hacc hzk hoz hzW hzr hkl hv hgb
      by_cases hA : c.toNat = 34 ∨ c.toNat = 92
      · have hq : quoteB c = [92, c] := by unfold quoteB; rw [if_pos hA]
        have HQB := Lib.hid hq
        obtain ⟨v2, w2, hr, hO2, hB2, hM2⟩ := put_bytes wr w.heap.size v acc [92, c] hOw hbs (by show acc.length + 2 ≤ _; omega)
        have hr : (Builtin.append_ #[50, 50] 50 #[v, .slice (some ⟨wr.heap.size, 0, none⟩) 2 2]).run Tryz.prog (wr.alloc (.cells #[.int .u8 92, .int .u8 (c.toNat : Int)] 5)) = .ok v2 w2 := hr
        have HEND := HST.out v2 w2 [92, c] hO2 hB2 hM2
        have HE := Lib.hid HEND
        clear hO2 hB2 hM2 HEND
        rcases hA with hA | hA
        · have g1 : ((c.toNat : Int) == 34) = true := by simp; omega
          clear hA hq hOw
          generalize c.toNat = cn at *
          go_wp2_with (at_builtin; refine wpList_append_run rfl (.tmp 30) (.tmp 32) 50 50 rfl _ _ rfl rfl _ w2 hr ?_; clear hr)
          obtain ⟨acc', ha, hE⟩ := HE.out HQB.out
          exact ⟨⟨k + 1, acc', _, rfl, by omega, by go_num, ha, hE⟩, by simp only [intOf]; omega⟩
        · have g1 : ((c.toNat : Int) == 34) = false := by simp; omega
          have g2 : ((c.toNat : Int) == 92) = true := by simp; omega
          clear hA hq hOw
          generalize c.toNat = cn at *
          go_wp2_with (at_builtin; refine wpList_append_run rfl (.tmp 30) (.tmp 32) 50 50 rfl _ _ rfl rfl _ w2 hr ?_; clear hr)
          obtain ⟨acc', ha, hE⟩ := HE.out HQB.out
          exact ⟨⟨k + 1, acc', _, rfl, by omega, by go_num, ha, hE⟩, by simp only [intOf]; omega⟩
      · have g1 : ((c.toNat : Int) == 34) = false := by simp; omega
        have g2 : ((c.toNat : Int) == 92) = false := by simp; omega
        have HS := isShown_any (c.toNat : Int) wr
        by_cases hB : 32 ≤ c.toNat ∧ c.toNat ≤ 126
        · have hq : quoteB c = [c] := by unfold quoteB; rw [if_neg hA, if_pos hB]
          have HQB := Lib.hid hq
          rw [show (decide ((32 : Int) ≤ (c.toNat : Int)) && decide ((c.toNat : Int) ≤ 126)) = true by simp; omega] at HS
          obtain ⟨v2, w2, hr, hO2, hB2, hM2⟩ := put_bytes wr w.heap.size v acc [c] hOw hbs (by show acc.length + 1 ≤ _; omega)
          have hr : (Builtin.append_ #[50, 50] 50 #[v, .slice (some ⟨wr.heap.size, 0, none⟩) 1 1]).run Tryz.prog (wr.alloc (.cells #[.int .u8 (c.toNat : Int)] 5)) = .ok v2 w2 := hr
          have HEND := HST.out v2 w2 [c] hO2 hB2 hM2
          have HE := Lib.hid HEND
          clear hO2 hB2 hM2 HEND
          clear hA hB hq
          go_wp2_with fail
          refine HS.mono ?_
          rintro e w3 ⟨rfl, he⟩
          obtain rfl := he.symm
          go_wp2_with (at_builtin; refine wpList_append_run rfl (.tmp 38) (.tmp 40) 50 50 rfl _ _ rfl rfl _ w2 hr ?_; clear hr)
          obtain ⟨acc', ha, hE⟩ := HE.out HQB.out
          exact ⟨⟨k + 1, acc', _, rfl, by omega, by go_num, ha, hE⟩, by simp only [intOf]; omega⟩
        · have hq : quoteB c = [92, hexC (c.toNat / 16), hexC (c.toNat % 16)] := by unfold quoteB; rw [if_neg hA, if_neg hB]
          have HQB := Lib.hid hq
          rw [show (decide ((32 : Int) ≤ (c.toNat : Int)) && decide ((c.toNat : Int) ≤ 126)) = false by simp; omega] at HS
          obtain ⟨n1, hn1⟩ : ∃ n, n = c.toNat / 16 := ⟨_, rfl⟩
          obtain ⟨n2, hn2⟩ : ∃ n, n = c.toNat % 16 := ⟨_, rfl⟩
          have h15 := and_15 c.toNat hb8
          rw [← hn2] at h15
          rw [← hn1, ← hn2] at HQB
          have HA15 := Lib.hid h15
          have HE1 := Lib.hid hn1
          have HN1 : Hid (n1 < 16) := Lib.hid (by omega)
          have HN2 : Hid (n2 < 16) := Lib.hid (by omega)
          clear hn1 hn2 h15
          obtain ⟨v2, w2, hr, hO2, hB2, hM2⟩ := put_bytes wr.drew w.heap.size v acc [92, hexC n1, hexC n2] hOw hbs (by show acc.length + 3 ≤ _; omega)
          have hr : (Builtin.append_ #[50, 50] 50 #[v, .slice (some ⟨wr.heap.size, 0, none⟩) 3 3]).run Tryz.prog (wr.drew.alloc (.cells #[.int .u8 92, .int .u8 ((hexC n1).toNat : Int), .int .u8 ((hexC n2).toNat : Int)] 5)) = .ok v2 w2 := hr
          have HEND := HST.out v2 w2 [92, hexC n1, hexC n2] hO2 ⟨hB2.os, hB2.tape, hB2.output, hB2.size, hB2.block⟩ hM2
          have HE := Lib.hid HEND
          clear hO2 hB2 hM2 HEND
          clear hA hB hq
          go_wp2_with fail
          refine HS.mono ?_
          rintro e w3 ⟨rfl, he⟩
          obtain rfl := he.symm
          go_upto_region 5 with fail
          refine wp_region_heldtail 9 (fun _ : World => True) (by kernel_rfl) (by kernel_rfl) ?_
          refine HL_take (i := 0) v (by kernel_rfl) rfl (by omega) (by kernel_rfl) (by kernel_rfl) (by kernel_rfl) (fun _ _ _ h => h) (.inl ⟨by kernel_rfl, fun w' hw' => by go_simp⟩) trivial ?_
          simp only [Act.put, List.setIfInBounds_toArray, List.set_cons_zero, List.set_cons_succ]
          refine HL_take (i := 1) (.int .u8 (c.toNat : Int)) (by kernel_rfl) rfl (by omega) (by kernel_rfl) (by kernel_rfl) (by kernel_rfl) (fun _ _ _ h => h) (.inl ⟨by kernel_rfl, fun w' hw' => by go_simp⟩) trivial ?_
          simp only [Act.put, List.setIfInBounds_toArray, List.set_cons_zero, List.set_cons_succ]
          refine HL_take (i := 2) (.int .u8 (n1 : Nat)) (by kernel_rfl) rfl (by omega) (by kernel_rfl) (by kernel_rfl) (by kernel_rfl) (fun _ _ _ h => h) (.inl ⟨by kernel_rfl, fun w' hw' => by go_simp; have := HE1.out; omega⟩) trivial ?_
          simp only [Act.put, List.setIfInBounds_toArray, List.set_cons_zero, List.set_cons_succ]
          refine HL_take (i := 3) (.int .u8 ((hexC n1).toNat : Int)) (by kernel_rfl) rfl (by omega) (by kernel_rfl) (by kernel_rfl) (by kernel_rfl) (fun _ _ _ h => h) (.inl ⟨by kernel_rfl, fun w' hw' => index_exec n1 HN1.out _ (.tmp 16) rfl _ rfl w'⟩) trivial ?_
          simp only [Act.put, List.setIfInBounds_toArray, List.set_cons_zero, List.set_cons_succ]
          refine HL_take (i := 4) (.int .u8 (c.toNat : Int)) (by kernel_rfl) rfl (by omega) (by kernel_rfl) (by kernel_rfl) (by kernel_rfl) (fun _ _ _ h => h) (.inl ⟨by kernel_rfl, fun w' hw' => by go_simp⟩) trivial ?_
          simp only [Act.put, List.setIfInBounds_toArray, List.set_cons_zero, List.set_cons_succ]
          refine HL_take (i := 5) (.int .u8 (n2 : Nat)) (by kernel_rfl) rfl (by omega) (by kernel_rfl) (by kernel_rfl) (by kernel_rfl) (fun _ _ _ h => h) (.inl ⟨by kernel_rfl, fun w' hw' => by go_simp; exact HA15.out⟩) trivial ?_
          simp only [Act.put, List.setIfInBounds_toArray, List.set_cons_zero, List.set_cons_succ]
          refine HL_take (i := 6) (.int .u8 ((hexC n2).toNat : Int)) (by kernel_rfl) rfl (by omega) (by kernel_rfl) (by kernel_rfl) (by kernel_rfl) (fun _ _ _ h => h) (.inl ⟨by kernel_rfl, fun w' hw' => index_exec n2 HN2.out _ (.tmp 19) rfl _ rfl w'⟩) trivial ?_
          simp only [Act.put, List.setIfInBounds_toArray, List.set_cons_zero, List.set_cons_succ]
          refine HL_one (i := 7) rfl (by omega) (by kernel_rfl) rfl ?_
          refine wp_value (v := .slice (some ⟨wr.heap.size, 0, none⟩) 3 3) (w' := wr.drew.alloc (.cells #[.int .u8 92, .int .u8 ((hexC n1).toNat : Int), .int .u8 ((hexC n2).toNat : Int)] 5)) (by go_simp) ?_
          refine ⟨trivial, ?_⟩
          simp only [Act.put, List.setIfInBounds_toArray, List.set_cons_zero, List.set_cons_succ]
          refine HL_one (i := 8) rfl (by omega) (by kernel_rfl) rfl ?_
          refine wp_append (.tmp 14) (.tmp 21) 50 50 (by kernel_rfl) v (.slice (some ⟨wr.heap.size, 0, none⟩) 3 3) (by go_simp) (by go_simp) (fun v' w' => v' = v2 ∧ w' = w2) ⟨_, w2, hr, rfl, rfl⟩ ?_
          rintro _ _ ⟨rfl, rfl⟩
          refine ⟨trivial, ?_⟩
          simp only [Act.put, List.setIfInBounds_toArray, List.set_cons_zero, List.set_cons_succ]
          refine ⟨by kernel_rfl, ?_⟩
          simp only [List.drop_succ_cons, List.drop_zero]
          clear hr
          go_wp2_with fail
          obtain ⟨acc', ha, hE⟩ := HE.out HQB.out
          exact ⟨⟨k + 1, acc', _, rfl, by omega, by go_num, ha, hE⟩, by simp only [intOf]; omega⟩
    · have hkk : k = s.size := by omega
      have g0 : decide ((k : Int) < (s.size : Int)) = false := decide_eq_false (by omega)
      obtain ⟨v2, w2, hr, hO2, hB2, hM2⟩ := put_bytes wr w.heap.size v acc [34] hOw hbs (by show acc.length + 1 ≤ _; omega)
      have hr : (Builtin.append_ #[50, 50] 50 #[v, .slice (some ⟨wr.heap.size, 0, none⟩) 1 1]).run Tryz.prog (wr.alloc (.cells #[.int .u8 34] 5)) = .ok v2 w2 := hr
      have hcv3 := text_of hO2
      have hacc2 : acc ++ [34] = Q := by
        rw [HQ.out, hacc, hkk, List.take_of_length_le (by simp)]
        unfold quoteF
        simp
      rw [hacc2] at hcv3
      have HEND : Hid (Below w.heap.size w w2) := Lib.hid ⟨hB2.os.trans hBw.os, hB2.tape.trans hBw.tape, hB2.output.trans hBw.output, Nat.le_trans hbs hB2.size, fun j hj => (hB2.block j (by omega) (by omega) (fun e => by
        rw [hv] at e
        have e : j = gb := Option.some.inj e
        omega)).trans (hBw.block j hj)⟩
      clear hO2 hB2 hM2 hacc2 hacc hv hgb hoz hzk hOw hcv2
      go_wp2_with (at_builtin; refine wpList_append_run rfl (.tmp 43) (.tmp 44) 50 50 rfl _ _ rfl rfl _ w2 hr ?_; clear hr)
      go_ret
      exact ⟨rfl, HEND.out⟩
end Go.Proofs.YtonbfcpbgkpbaaaGreatDoor
end
section
/- recipe.runeToken: its contract. -/
namespace Go.Proofs.YtonbfcpbgkpbaaaGreatDoor
open Go.RowKit Go.Sort Go.Joins
set_option linter.unusedVariables false
set_option linter.unusedSimpArgs false
set_option maxRecDepth 100000
def capC (n : Nat) : UInt8 := UInt8.ofNat (if n < 10 then 48 + n else 55 + n)
/-- Capital digits put ahead, four at the least. -/
def rdig : Nat → Nat → List UInt8 → List UInt8
  | 0, _, acc => acc
  | f + 1, n, acc => if 0 < n ∨ acc.length < 4 then rdig f (n / 16) (capC (n % 16) :: acc) else acc
/-- The token of a rune. -/
def runeTok (n : Nat) : List UInt8 := 85 :: 43 :: rdig 8 n []
theorem rdig_end (f n : Nat) (acc : List UInt8) (h : ¬ (0 < n ∨ acc.length < 4)) : rdig f n acc = acc := by
  cases f with
  | zero => rfl
  | succ f => rw [rdig, if_neg h]
theorem rdig_step (f n : Nat) (acc : List UInt8) (h : 0 < n ∨ acc.length < 4) : rdig (f + 1) n acc = rdig f (n / 16) (capC (n % 16) :: acc) := by rw [rdig, if_pos h]
theorem and15z (m : Nat) (h : m < 4294967296) : bits BinOp.and IntKind.i64 (m : Int) 15 = ((m % 16 : Nat) : Int) := by
  have hx : m &&& 15 = m % 16 := Nat.and_two_pow_sub_one_eq_mod m 4
  have h1 : (BitVec.ofInt 64 (m : Int)).toNat = m := by
    rw [BitVec.ofInt_natCast, BitVec.toNat_ofNat]; exact Nat.mod_eq_of_lt (by omega)
  show IntKind.i64.wrap ((BitVec.ofInt 64 (m : Int) &&& BitVec.ofInt 64 (15 : Int)).toNat : Int) = _
  rw [BitVec.toNat_and, h1, show (BitVec.ofInt 64 (15 : Int)).toNat = 15 by decide, hx]
  rw [IntKind.wrap_i64]
  omega
theorem cut_cap (q : Nat) (h : q < 16) (w : World) : (Instr.slice 9 (.string ⟨#[48, 49, 50, 51, 52, 53, 54, 55, 56, 57, 65, 66, 67, 68, 69, 70]⟩) (some (.int .i64 (q : Nat))) (some (.int .i64 ((q : Int) + 1))) none).run Tryz.prog w = .ok (.string ⟨#[capC q]⟩) w := by
  have : q = 0 ∨ q = 1 ∨ q = 2 ∨ q = 3 ∨ q = 4 ∨ q = 5 ∨ q = 6 ∨ q = 7 ∨ q = 8 ∨ q = 9 ∨ q = 10 ∨ q = 11 ∨ q = 12 ∨ q = 13 ∨ q = 14 ∨ q = 15 := by omega
  rcases this with rfl | rfl | rfl | rfl | rfl | rfl | rfl | rfl | rfl | rfl | rfl | rfl | rfl | rfl | rfl | rfl <;> (show _ = _; kernel_rfl)
theorem text_add (a b : List UInt8) : textOf a ++ textOf b = textOf (a ++ b) := by
  apply ByteArray.ext
  simp [textOf]
set_option maxHeartbeats 2000000 in
theorem runeToken_any (n : Nat) (hn : n ≤ 1114111) (w : World) : Calls Tryz.prog 40 #[.int .i32 (n : Nat)] w fun e w' => e = .returned (.string (textOf (runeTok n))) ∧ w' = w := by
  go_enter Tryz.func40, Tryz.ntmps40
  go_wp2_with fail
  go_loopw [3, 4] (fun s i wr => ∃ (f m : Nat) (acc : List UInt8), s = .string (textOf acc) ∧ i = .int .i64 (m : Nat) ∧ m ≤ n ∧ acc.length ≤ 8 ∧ acc.length + f = 8 ∧ m < 16 ^ f ∧ rdig f m acc = rdig 8 n [] ∧ wr = w) (fun s i _ => 16 - (match s with | .string b => b.size | _ => 0))
  case atStart => exact ⟨8, n, [], rfl, rfl, Nat.le_refl _, by simp, rfl, by omega, rfl, rfl⟩
  case round =>
    obtain ⟨f, m, acc, rfl, rfl, hm, hl, hfl, hp, hd, hw⟩ := hrel
    rw [hw]
    clear hw wr
    have hsz : (textOf acc).size = acc.length := by simp [textOf, ByteArray.size]
    by_cases hc : 0 < m ∨ acc.length < 4
    · obtain ⟨f, rfl⟩ : ∃ g, f = g + 1 := by
        cases f with
        | zero => exfalso; simp at hp; omega
        | succ f => exact ⟨f, rfl⟩
      have HD := Lib.hid ((rdig_step f m acc hc).symm.trans hd)
      have HPW := Lib.hid (show m / 16 < 16 ^ f by rw [Nat.pow_succ] at hp; omega)
      have ha := and15z m (by omega)
      have hcut := fun wx => cut_cap (m % 16) (Nat.mod_lt _ (by decide)) wx
      have hq : m % 16 < 16 := Nat.mod_lt _ (by decide)
      obtain ⟨q, hqq⟩ : ∃ q, q = m % 16 := ⟨_, rfl⟩
      have HTX := Lib.hid (show (⟨#[capC (m % 16)]⟩ : ByteArray) ++ textOf acc = textOf (capC (m % 16) :: acc) from text_add [capC (m % 16)] acc)
      rw [← hqq] at ha hcut hq HTX HD
      have HSZ := Lib.hid hsz
      have hz4 : ((acc.length : Nat) : Int) = ((textOf acc).size : Nat) := by rw [hsz]
      obtain ⟨x, hx⟩ : ∃ x, x = textOf acc := ⟨_, rfl⟩
      rw [← hx] at hz4 HTX HSZ ⊢
      clear hd hp hsz hx hqq
      have d4 : decide ((x.size : Int) < 4) = decide (acc.length < 4) := by rw [← hz4, Bool.eq_iff_iff]; simp; omega
      by_cases h0 : 0 < m
      · have d0 : decide ((0 : Int) < (m : Int)) = true := decide_eq_true (by omega)
        clear d4
        go_wp2_with fail
        exact ⟨⟨f, m / 16, capC q :: acc, by rw [HTX.out], by go_num, by omega, by simp only [List.length_cons]; omega, by simp only [List.length_cons]; omega, HPW.out, HD.out, trivial⟩, by
          show 16 - ByteArray.size _ < 16 - ByteArray.size _
          rw [ByteArray.size_append, HSZ.out]
          show 16 - (1 + _) < _
          omega⟩
      · have d0 : decide ((0 : Int) < (m : Int)) = false := decide_eq_false (by omega)
        have d5 : decide ((x.size : Int) < 4) = true := by rw [d4]; exact decide_eq_true (by omega)
        clear d4
        go_wp2_with fail
        exact ⟨⟨f, m / 16, capC q :: acc, by rw [HTX.out], by go_num, by omega, by simp only [List.length_cons]; omega, by simp only [List.length_cons]; omega, HPW.out, HD.out, trivial⟩, by
          show 16 - ByteArray.size _ < 16 - ByteArray.size _
          rw [ByteArray.size_append, HSZ.out]
          show 16 - (1 + _) < _
          omega⟩
    · have HD := Lib.hid ((rdig_end f m acc hc).symm.trans hd)
      have d0 : decide ((0 : Int) < (m : Int)) = false := decide_eq_false (by omega)
      have HTX := Lib.hid (show (⟨#[85, 43]⟩ : ByteArray) ++ textOf acc = textOf (85 :: 43 :: acc) from text_add [85, 43] acc)
      have d5 : decide (((textOf acc).size : Int) < 4) = false := decide_eq_false (by rw [hsz]; omega)
      obtain ⟨x, hx⟩ : ∃ x, x = textOf acc := ⟨_, rfl⟩
      have hx8 : x.size ≤ 8 := by rw [hx, hsz]; exact hl
      rw [← hx] at d5 HTX ⊢
      clear hd hp hsz hx
      go_wp2_with fail
      go_ret
      exact ⟨by unfold runeTok; rw [← HD.out, ← HTX.out]; rfl, rfl⟩
end Go.Proofs.YtonbfcpbgkpbaaaGreatDoor
end
section
/- Recipes: what is printed is scanned as it was meant, token by token: the mathematics. -/
namespace Go.Proofs.YtonbfcpbgkpbaaaGreatDoor
set_option linter.unusedVariables false
set_option linter.unusedSimpArgs false
/-- A printed token: of a kind, with a text, wherever a blank stands behind it. -/
structure TkOk (tok : List UInt8) (k : Nat) (s : List UInt8) : Prop where
  tok_ : ∀ c r, blnkB c = true → tokL (tok ++ c :: r) = (k, tok.length, s)
  kind : k ≤ 5
  head : ∃ c l, tok = c :: l ∧ blnkB c = false ∧ c.toNat ≠ 35
theorem blnk_vals {c : UInt8} (h : blnkB c = true) : c.toNat = 9 ∨ c.toNat = 10 ∨ c.toNat = 13 ∨ c.toNat = 32 := by
  simp only [blnkB, Bool.or_eq_true, beq_iff_eq] at h
  omega
theorem blnk_small {c : UInt8} (h : blnkB c = true) : smallB c = false ∧ digitB c = false ∧ capB c = false ∧ onB c = false := by
  have h2 := blnk_vals h
  refine ⟨?_, ?_, ?_, ?_⟩
  · simp [smallB]; omega
  · simp [digitB]; omega
  · simp [capB, digitB]; omega
  · simp [onB, smallB, digitB]; omega
theorem tokL_cons (c : UInt8) (l' : List UInt8) : tokL (c :: l') =
    if c.toNat = 34 then ((wordW 0 0 l').1, (wordW 0 0 l').2.1 + 1, wordT (wordW 0 0 l'))
    else if smallB c = true then bounded 1 ((c :: l').takeWhile smallB).length (c :: l')
    else if c.toNat = 48 then bounded 2 1 (c :: l')
    else if digitB c = true then bounded 2 (tenDigits 10 (c :: l')) (c :: l')
    else if (c :: l').take 2 = [85, 43] then bounded (if runeDB (((c :: l').drop 2).takeWhile capB) = true then 3 else 6) (2 + (((c :: l').drop 2).takeWhile capB).length) (c :: l')
    else if (c :: l').take 2 = [46, 46] then (5, 2, (c :: l').take 2)
    else if c.toNat = 123 ∨ c.toNat = 125 ∨ c.toNat = 43 ∨ c.toNat = 61 then (5, 1, (c :: l').take 1)
    else (6, 0, []) := rfl
theorem take_all {p : UInt8 → Bool} {l : List UInt8} {c : UInt8} {r : List UInt8} (hl : ∀ x ∈ l, p x = true) (hc : p c = false) : (l ++ c :: r).takeWhile p = l := by
  induction l with
  | nil => simp [hc]
  | cons x l ih =>
    rw [List.cons_append, List.takeWhile_cons, hl x (by simp)]
    simp only [if_true]
    rw [ih (fun y hy => hl y (by simp [hy]))]
theorem bounded_ok {k n : Nat} {tok : List UInt8} {c : UInt8} {r : List UInt8} (hn : n = tok.length) (hc : blnkB c = true) : bounded k n (tok ++ c :: r) = (k, tok.length, tok) := by
  subst hn
  unfold bounded
  rw [List.drop_left, List.take_left]
  show (if onB c = true then 6 else k, _) = _
  rw [(blnk_small hc).2.2.2]
  simp
/-- A name. -/
theorem tk_name {nm : List UInt8} (h : ∀ x ∈ nm, smallB x = true) (h0 : nm ≠ []) : TkOk nm 1 nm := by
  cases nm with
  | nil => exact absurd rfl h0
  | cons a l =>
    have ha := h a (by simp)
    have hv : 97 ≤ a.toNat ∧ a.toNat ≤ 122 := by simpa [smallB] using ha
    refine ⟨fun c r hc => ?_, by omega, a, l, rfl, by simp [blnkB]; omega, by omega⟩
    show (if a.toNat = 34 then _ else if smallB a = true then bounded 1 (((a :: l) ++ c :: r).takeWhile smallB).length ((a :: l) ++ c :: r) else _) = _
    rw [if_neg (by omega), if_pos ha, take_all h (blnk_small hc).1]
    exact bounded_ok rfl hc
/-- A sign. -/
theorem tk_sign {b : UInt8} (h : b.toNat = 123 ∨ b.toNat = 125 ∨ b.toNat = 43 ∨ b.toNat = 61) : TkOk [b] 5 [b] := by
  refine ⟨fun c r hc => ?_, by omega, b, [], rfl, by simp [blnkB]; omega, by omega⟩
  have h1 : smallB b = false := by simp [smallB]; omega
  have h2 : digitB b = false := by simp [digitB]; omega
  have h3 : ¬ ([b] ++ c :: r).take 2 = [85, 43] := by
    intro e
    have : b = 85 := by simpa using (List.cons.inj e).1
    subst this
    revert h
    decide
  have h4 : ¬ ([b] ++ c :: r).take 2 = [46, 46] := by
    intro e
    have : b = 46 := by simpa using (List.cons.inj e).1
    subst this
    revert h
    decide
  show (if b.toNat = 34 then _ else if smallB b = true then _ else if b.toNat = 48 then _ else if digitB b = true then _ else if ([b] ++ c :: r).take 2 = [85, 43] then _ else if ([b] ++ c :: r).take 2 = [46, 46] then _ else if b.toNat = 123 ∨ b.toNat = 125 ∨ b.toNat = 43 ∨ b.toNat = 61 then _ else _) = _
  rw [if_neg (by omega), h1, if_neg (by simp), if_neg (by omega), h2, if_neg (by simp), if_neg h3, if_neg h4, if_pos h]
  rfl
theorem tk_to : TkOk sTo 5 sTo := by
  refine ⟨fun c r hc => ?_, by omega, 46, [46], rfl, by decide, by decide⟩
  rfl
/-- A word. -/
theorem hexC_nat {n : Nat} (h : n < 16) : (hexC n).toNat = if n < 10 then 48 + n else 87 + n := by
  unfold hexC
  rw [UInt8.toNat_ofNat']
  split <;> omega
theorem hexC_low {n : Nat} (h : n < 16) : lowB (hexC n) = true ∧ digV (hexC n) = n := by
  have := hexC_nat h
  by_cases hn : n < 10
  · rw [if_pos hn] at this
    constructor
    · simp [lowB, digitB]; omega
    · unfold digV; rw [if_pos (by omega)]; omega
  · rw [if_neg hn] at this
    constructor
    · simp [lowB, digitB]; omega
    · unfold digV; rw [if_neg (by omega), if_neg (by omega)]; omega
theorem word_byte (h : UInt8) (x : UInt8) (l : List UInt8) : ∃ h', wordW 0 h (quoteB x ++ l) = ((wordW 0 h' l).1, (wordW 0 h' l).2.1 + (quoteB x).length, x :: (wordW 0 h' l).2.2) := by
  unfold quoteB
  by_cases h1 : x.toNat = 34 ∨ x.toNat = 92
  · rw [if_pos h1]
    refine ⟨h, ?_⟩
    show wordW 0 h (92 :: x :: l) = _
    rw [wordW, if_neg (by decide), if_pos (by decide), wordW, if_pos h1]
    rfl
  · rw [if_neg h1]
    by_cases h2 : 32 ≤ x.toNat ∧ x.toNat ≤ 126
    · rw [if_pos h2]
      refine ⟨h, ?_⟩
      show wordW 0 h (x :: l) = _
      rw [wordW, if_neg (by omega), if_neg (by omega), if_pos (by simp [shownB]; exact h2)]
      rfl
    · rw [if_neg h2]
      have hx := x.toNat_lt
      have a1 := hexC_low (n := x.toNat / 16) (by omega)
      have a2 := hexC_low (n := x.toNat % 16) (by omega)
      have a3 := hexC_nat (n := x.toNat / 16) (by omega)
      have hv : byteV (hexC (x.toNat / 16)) (hexC (x.toNat % 16)) = x := by
        unfold byteV
        rw [a1.2, a2.2, show x.toNat / 16 * 16 + x.toNat % 16 = x.toNat by omega]
        exact UInt8.ofNat_toNat
      refine ⟨hexC (x.toNat / 16), ?_⟩
      show wordW 0 h (92 :: hexC (x.toNat / 16) :: hexC (x.toNat % 16) :: l) = _
      rw [wordW, if_neg (by decide), if_pos (by decide), wordW, if_neg (by split at a3 <;> omega), if_pos a1.1, wordW, if_pos ⟨a2.1, by rw [hv]; simp [shownB]; omega⟩, hv]
      rfl
theorem word_all (l : List UInt8) : ∀ (h : UInt8) (r : List UInt8), wordW 0 h (l.flatMap quoteB ++ 34 :: r) = (4, (l.flatMap quoteB).length + 1, l) := by
  induction l with
  | nil => intro h r; rfl
  | cons x l ih =>
    intro h r
    rw [List.flatMap_cons, List.append_assoc]
    obtain ⟨h', e⟩ := word_byte h x (l.flatMap quoteB ++ 34 :: r)
    rw [e, ih h' r, List.length_append]
    simp only [Prod.mk.injEq, true_and, and_true]
    omega
theorem tk_word (w : List UInt8) : TkOk (quoteF w) 4 w := by
  refine ⟨fun c r hc => ?_, by omega, 34, _, rfl, by decide, by decide⟩
  show tokL (34 :: (w.flatMap quoteB ++ [34] ++ c :: r)) = _
  rw [List.append_assoc, List.singleton_append]
  show ((wordW 0 0 (w.flatMap quoteB ++ 34 :: c :: r)).1, (wordW 0 0 (w.flatMap quoteB ++ 34 :: c :: r)).2.1 + 1, wordT (wordW 0 0 (w.flatMap quoteB ++ 34 :: c :: r))) = _
  rw [word_all w 0 (c :: r)]
  unfold wordT quoteF
  simp
/-- A rune. -/
theorem capC_nat {n : Nat} (h : n < 16) : (capC n).toNat = if n < 10 then 48 + n else 55 + n := by
  unfold capC
  rw [UInt8.toNat_ofNat']
  split <;> omega
theorem capC_cap {n : Nat} (h : n < 16) : capB (capC n) = true ∧ digV (capC n) = n := by
  have := capC_nat h
  by_cases hn : n < 10
  · rw [if_pos hn] at this
    constructor
    · simp [capB, digitB]; omega
    · unfold digV; rw [if_pos (by omega)]; omega
  · rw [if_neg hn] at this
    constructor
    · simp [capB, digitB]; omega
    · unfold digV; rw [if_neg (by omega), if_pos (by omega)]; omega
theorem val_acc (l : List UInt8) : ∀ n, valF 16 n l = n * 16 ^ l.length + valF 16 0 l := by
  induction l with
  | nil => intro n; simp [valF]
  | cons c l ih =>
    intro n
    rw [valF, ih, valF, ih (0 * 16 + digV c), List.length_cons, Nat.pow_succ]
    rw [Nat.add_mul, Nat.zero_mul, Nat.zero_add, Nat.mul_assoc, Nat.mul_comm 16 (16 ^ l.length)]
    omega
/-- The digits of a number, laid ahead of others. -/
theorem rdig_spec : ∀ (f n : Nat) (acc : List UInt8), (∀ x ∈ acc, capB x = true) → (f ≥ 1 → n < 16 ^ f) → (f = 0 → n = 0) →
    (∀ x ∈ rdig f n acc, capB x = true) ∧ valF 16 0 (rdig f n acc) = n * 16 ^ acc.length + valF 16 0 acc
  | 0, n, acc, ha, _, h0 => by
    have : n = 0 := h0 rfl
    subst this
    exact ⟨ha, by simp [rdig]⟩
  | f + 1, n, acc, ha, hn, _ => by
    by_cases h : 0 < n ∨ acc.length < 4
    · rw [rdig_step f n acc h]
      have hc := capC_cap (n := n % 16) (by omega)
      have hlt := hn (by omega)
      rw [Nat.pow_succ] at hlt
      have ih := rdig_spec f (n / 16) (capC (n % 16) :: acc) (fun x hx => by
        rcases List.mem_cons.1 hx with rfl | hx
        · exact hc.1
        · exact ha x hx) (fun _ => by omega) (fun h0 => by subst h0; simp at hlt; omega)
      refine ⟨ih.1, ?_⟩
      rw [ih.2, valF, val_acc acc, hc.2, List.length_cons, Nat.pow_succ, Nat.zero_mul, Nat.zero_add, ← Nat.add_assoc]
      congr 1
      rw [Nat.mul_comm (16 ^ acc.length) 16, ← Nat.mul_assoc, ← Nat.add_mul]
      congr 1
      omega
    · rw [rdig_end (f + 1) n acc h]
      have : n = 0 := by omega
      subst this
      exact ⟨ha, by simp⟩
theorem rune_form {n : Nat} (h : n ≤ 1114111) : ∃ l, rdig 8 n [] = l ∧ 4 ≤ l.length ∧ l.length ≤ 6 ∧ (l.length ≤ 4 ∨ (l.headD 0).toNat ≠ 48) := by
  have s4 : rdig 8 n [] = rdig 4 (n / 16 / 16 / 16 / 16) [capC (n / 16 / 16 / 16 % 16), capC (n / 16 / 16 % 16), capC (n / 16 % 16), capC (n % 16)] := by
    rw [rdig_step 7 n [] (.inr (by simp)), rdig_step 6 _ _ (.inr (by simp)), rdig_step 5 _ _ (.inr (by simp)), rdig_step 4 _ _ (.inr (by simp))]
  refine ⟨_, rfl, ?_⟩
  rw [s4]
  obtain ⟨q, hq⟩ : ∃ q, q = n / 16 / 16 / 16 / 16 := ⟨_, rfl⟩
  have hq16 : q ≤ 16 := by omega
  rw [← hq]
  by_cases h0 : q = 0
  · rw [rdig_end 4 q _ (by simp; omega)]
    simp
  · rw [rdig_step 3 q _ (.inl (by omega))]
    by_cases h1 : q / 16 = 0
    · rw [h1, rdig_end 3 0 _ (by simp)]
      have := capC_nat (n := q % 16) (by omega)
      refine ⟨by simp, by simp, .inr ?_⟩
      show (capC (q % 16)).toNat ≠ 48
      rw [this]
      split <;> omega
    · rw [rdig_step 2 _ _ (.inl (by omega))]
      have : q / 16 / 16 = 0 := by omega
      rw [this, rdig_end 2 0 _ (by simp)]
      have := capC_nat (n := q / 16 % 16) (by omega)
      refine ⟨by simp, by simp, .inr ?_⟩
      show (capC (q / 16 % 16)).toNat ≠ 48
      rw [this]
      split <;> omega
theorem rune_val {n : Nat} (h : n ≤ 1114111) : (∀ x ∈ rdig 8 n [], capB x = true) ∧ valF 16 0 (rdig 8 n []) = n := by
  have := rdig_spec 8 n [] (by simp) (fun _ => by omega) (fun h => by omega)
  refine ⟨this.1, ?_⟩
  rw [this.2]
  simp [valF]
theorem runeV_tok {n : Nat} (h : n ≤ 1114111) : runeV (runeTok n) = n := (rune_val h).2
theorem tk_rune {n : Nat} (h : scalarB n = true) : TkOk (runeTok n) 3 (runeTok n) := by
  have hn : n ≤ 1114111 := by
    simp only [scalarB, Bool.or_eq_true, Bool.and_eq_true, decide_eq_true_eq] at h
    omega
  obtain ⟨l, hl, h1, h2, h3⟩ := rune_form hn
  obtain ⟨hv1, hv2⟩ := rune_val hn
  rw [hl] at hv1 hv2
  refine ⟨fun c r hc => ?_, by omega, 85, _, rfl, by decide, by decide⟩
  have e : runeTok n = 85 :: 43 :: l := by unfold runeTok; rw [hl]
  rw [e]
  have ht : ((85 :: 43 :: l ++ c :: r).drop 2).takeWhile capB = l := take_all hv1 (blnk_small hc).2.2.1
  have hd : runeDB l = true := by
    simp only [runeDB, Bool.and_eq_true, Bool.or_eq_true, decide_eq_true_eq, bne_iff_ne, ne_eq]
    exact ⟨⟨⟨h1, h2⟩, h3⟩, by rw [hv2]; exact h⟩
  rw [show (85 :: 43 :: l ++ c :: r : List UInt8) = 85 :: (43 :: l ++ c :: r) from rfl] at ht ⊢
  rw [tokL_cons]
  rw [ht, hd, if_neg (by decide), if_neg (by decide), if_neg (by decide), if_neg (by decide), if_pos rfl, if_pos (show (85 :: (43 :: l ++ c :: r) : List UInt8).take 2 = [85, 43] from rfl)]
  exact bounded_ok (tok := 85 :: 43 :: l) (by simp; omega) hc
/-- The decimal digits of a number that a merge of a hundred may name. -/
def dec3 (v : Nat) : List UInt8 := [UInt8.ofNat (48 + v / 100), UInt8.ofNat (48 + v / 10 % 10), UInt8.ofNat (48 + v % 10)]
theorem dec_digit {d : Nat} (h : d < 10) : (UInt8.ofNat (48 + d)).toNat = 48 + d ∧ digitB (UInt8.ofNat (48 + d)) = true ∧ digV (UInt8.ofNat (48 + d)) = d := by
  have e : (UInt8.ofNat (48 + d)).toNat = 48 + d := by rw [UInt8.toNat_ofNat']; omega
  refine ⟨e, ?_, ?_⟩
  · simp [digitB, e]; omega
  · unfold digV; rw [e, if_pos (by omega)]; omega
theorem dec_val {v : Nat} (h : v < 1000) : valF 10 0 (dec3 v) = v := by
  have a := (dec_digit (d := v / 100) (by omega)).2.2
  have b := (dec_digit (d := v / 10 % 10) (by omega)).2.2
  have c := (dec_digit (d := v % 10) (by omega)).2.2
  unfold dec3
  rw [valF, valF, valF, valF, a, b, c]
  omega
theorem tk_dec {v : Nat} (h1 : 100 ≤ v) (h : v < 1000) : TkOk (dec3 v) 2 (dec3 v) := by
  obtain ⟨a1, a2, _⟩ := dec_digit (d := v / 100) (by omega)
  obtain ⟨b1, b2, _⟩ := dec_digit (d := v / 10 % 10) (by omega)
  obtain ⟨c1, c2, _⟩ := dec_digit (d := v % 10) (by omega)
  refine ⟨fun c r hc => ?_, by omega, _, _, rfl, by simp [blnkB]; omega, by omega⟩
  have hs : smallB (UInt8.ofNat (48 + v / 100)) = false := by simp [smallB, a1]; omega
  have ht : tenDigits 10 (dec3 v ++ c :: r) = 3 := by
    show tenDigits 10 (UInt8.ofNat (48 + v / 100) :: UInt8.ofNat (48 + v / 10 % 10) :: UInt8.ofNat (48 + v % 10) :: c :: r) = 3
    rw [tenDigits, if_pos a2, tenDigits, if_pos b2, tenDigits, if_pos c2, tenDigits, if_neg (by rw [(blnk_small hc).2.1]; simp)]
  show (if (UInt8.ofNat (48 + v / 100)).toNat = 34 then _ else if smallB (UInt8.ofNat (48 + v / 100)) = true then _ else if (UInt8.ofNat (48 + v / 100)).toNat = 48 then _ else if digitB (UInt8.ofNat (48 + v / 100)) = true then bounded 2 (tenDigits 10 (dec3 v ++ c :: r)) (dec3 v ++ c :: r) else _) = _
  rw [a1, if_neg (by omega), hs, if_neg (by simp), if_neg (by omega), if_pos a2, ht]
  exact bounded_ok rfl hc
end Go.Proofs.YtonbfcpbgkpbaaaGreatDoor
end
section
/- A strings.Builder of one's own: what its writers leave: their contracts. -/
namespace Go.Proofs.YtonbfcpbgkpbaaaGreatDoor
open Go.RowKit Go.Sort Go.Joins
set_option linter.unusedVariables false
set_option linter.unusedSimpArgs false
set_option maxRecDepth 100000
theorem infoBld : (Tryz.prog.info? 57).map (·.size) = some 2 := by kernel_rfl
theorem liesBld : liesAt Tryz.prog Tryz.prog.depth 57 (2 / Tryz.prog.cellsOf 57) 0 57 1 = true := by kernel_rfl
theorem strCells_tl (s : ByteArray) : Lib.strCells s = Oc.cellsOf (tl s) := rfl
/-- A text is laid behind what is written: which block turns. -/
theorem put_string (wr : World) (base : Nat) (v : Value) (acc : List UInt8) (s : ByteArray) (h : Oc.OwnS wr base v acc) (hb : base ≤ wr.heap.size) (hn : acc.length + s.size ≤ 140737488355328) :
    ∃ v' w', (Builtin.append_ #[50, 9] 50 #[v, .string s]).run Tryz.prog wr = .ok v' w' ∧ Oc.OwnS w' base v' (acc ++ tl s) ∧ Bu wr.heap.size v.ownBlock wr.heap.size wr w' ∧ Moved v v' wr.heap.size := by
  obtain ⟨i0, hi, hz0, hz1, hz2⟩ := info_parts Oc.info5
  have hgen : ∀ B, B ≤ wr.heap.size → wr.ownsRow B 5 1 v acc.length (Oc.cellsOf acc) → ∃ v' w', (Builtin.append_ #[50, 9] 50 #[v, .string s]).run Tryz.prog wr = .ok v' w' ∧ w'.ownsRow B 5 1 v' (acc.length + s.size) (Oc.cellsOf acc ++ Lib.strCells s) ∧ wr.grownBy w' v.ownBlock := by
    intro B hB ho
    obtain ⟨v', w', h1, h2, h3, _⟩ := Lib.run_append_own_string (P := Tryz.prog) wr B 50 9 50 5 i0 Tryz.underlying50 Tryz.underlying9 hi hz0 hz1 hz2 v acc.length _ ho s (by unfold maxLen; omega) (by omega) hB
    exact ⟨v', w', h1, h2, h3⟩
  have hend : ∀ (B : Nat) (v' : Value) (w' : World), B ≤ B → w'.ownsRow B 5 1 v' (acc.length + s.size) (Oc.cellsOf acc ++ Lib.strCells s) → Oc.OwnS w' B v' (acc ++ tl s) := by
    intro B v' w' _ h
    unfold Oc.OwnS
    rw [List.length_append, tl_len, show Oc.cellsOf (acc ++ tl s) = Oc.cellsOf acc ++ Lib.strCells s by rw [strCells_tl]; unfold Oc.cellsOf; rw [List.map_append]]
    exact h
  have hbu : ∀ w', wr.grownBy w' v.ownBlock → Bu wr.heap.size v.ownBlock wr.heap.size wr w' := fun w' h3 => ⟨h3.os, h3.tape, h3.output, h3.size, fun k hk _ ho => h3.block k hk ho⟩
  rcases h.2 with ⟨hv, h0⟩ | ⟨g, cp, cur, hv, hg, hh, hn2, hm, hcs, ht⟩
  · obtain ⟨v', w', h1, h2, h3⟩ := hgen wr.heap.size (Nat.le_refl _) ⟨h.1, .inl ⟨hv, h0⟩⟩
    refine ⟨v', w', h1, hend base v' w' (Nat.le_refl _) (ownsRow_le h2 hb), hbu w' h3, fun i hi => .inr ?_⟩
    rcases h2.2 with ⟨hv', _⟩ | ⟨b2, cap2, cur2, hv', hbb, _⟩
    · rw [hv'] at hi; cases hi
    · rw [hv'] at hi; cases hi; exact hbb
  · obtain ⟨v', w', h1, h2, h3⟩ := hgen base hb h
    refine ⟨v', w', h1, hend base v' w' (Nat.le_refl _) h2, hbu w' h3, fun i hq => ?_⟩
    subst hv
    by_cases hroom : acc.length + s.size ≤ cp
    · have hr := Lib.run_append_room_string (P := Tryz.prog) wr 50 9 50 5 i0 Tryz.underlying50 Tryz.underlying9 hi hz1 g acc.length cp cur hh s hroom (by omega)
      rw [hr] at h1
      injection h1 with h1 _
      rw [← h1] at hq
      exact .inl hq
    · have holds : ∀ j u, (Oc.cellsOf acc)[j]? = some u → wr.cell? ((⟨g, 0, none⟩ : Addr).add j) = some u := World.ownsRow.cells h (g := g) rfl
      have hr := Lib.run_append_grow_string (P := Tryz.prog) wr 50 9 50 5 i0 _ Tryz.underlying50 Tryz.underlying9 hi hz0 ⟨g, 0, none⟩ acc.length cp (Oc.cellsOf acc) (by rw [hz1]; simp [Oc.cellsOf]) holds s (by omega) (by omega) (by rw [hz2]; exact growslice_fits (by omega) (by omega))
      rw [hr] at h1
      injection h1 with h1 _
      rw [← h1] at hq
      have : wr.heap.size = i := by simpa [Value.ownBlock] using hq
      exact .inr (by omega)
/-- A builder of one's own: its block, its row. -/
structure BI (w : World) (b base : Nat) (v : Value) (acc : List UInt8) : Prop where
  at_ : ∃ p, (p = .pointer none ∨ p = .pointer (some ⟨b, 0, none⟩)) ∧ w.heap[b]? = some (.cells #[p, v] 57 (0, 0))
  row : Oc.OwnS w base v acc
theorem BI.lt {w : World} {b base : Nat} {v : Value} {acc : List UInt8} (h : BI w b base v acc) : b < w.heap.size := by
  obtain ⟨p, _, h⟩ := h.at_
  exact (Array.getElem?_eq_some_iff.1 h).1
theorem BI.ne {w : World} {b base : Nat} {v : Value} {acc : List UInt8} (h : BI w b base v acc) : v.ownBlock ≠ some b := fun hb => by
  obtain ⟨p, _, h1⟩ := h.at_
  rcases h.row.2 with ⟨hv, _⟩ | ⟨g, cp, cur, hv, hg, hh, _⟩
  · rw [hv] at hb; cases hb
  · rw [hv] at hb
    cases hb
    rw [hh] at h1
    injection h1 with h1
    injection h1 with _ h1
    exact absurd h1 (by decide)
theorem copy_fresh (b : Nat) (v : Value) (w : World) (h : w.heap[b]? = some (.cells #[.pointer none, v] 57 (0, 0))) :
    Calls Tryz.prog 49 #[.pointer (some ⟨b, 0, none⟩)] w fun e w' => e = .returned (.tuple #[]) ∧ w' = w.setCell ⟨b, 0, none⟩ (.pointer (some ⟨b, 0, none⟩)) := by
  obtain ⟨j, hj, hjs⟩ := Option.map_eq_some_iff.1 infoBld
  have h0 : w.cell? ⟨b, 0, none⟩ = some (.pointer none) := by rw [cell_of_block h]; rfl
  have hsh : w.shape? b = some (57, 2) := by simp [World.shape?, h]
  have hfz : w.frozen? ⟨b, 0, none⟩ = false := unfrozen_of_block h 0
  clear h
  go_enter Tryz.func49, Tryz.ntmps49
  go_wp2
  rw [Lib.run_to_unsafe w ⟨b, 0, none⟩ Tryz.underlying55 Tryz.underlying113 hj (by rw [hjs]; decide) hsh (Nat.zero_lt_succ 1)]
  simp only [Result.andThen]
  rw [Oper.upon_value]
  go_wp2
  rw [run_callFunc_extern Tryz.func62 (by kernel_rfl) (by kernel_rfl) (by kernel_rfl) (e := Extern.AbiNoEscape.same) (by kernel_rfl)]
  rw [Lib.run_noEscape]
  simp only [Result.andThen]
  rw [Oper.upon_value]
  go_wp2
  rw [Lib.run_from_unsafe w ⟨b, 0, none⟩ Tryz.underlying113 Tryz.underlying55 hj hsh liesBld]
  simp only [Result.andThen]
  rw [Oper.upon_value]
  go_wp2
  go_end0
  exact ⟨rfl, rfl⟩
theorem copy_used (b : Nat) (v : Value) (w : World) (h : w.heap[b]? = some (.cells #[.pointer (some ⟨b, 0, none⟩), v] 57 (0, 0))) :
    Calls Tryz.prog 49 #[.pointer (some ⟨b, 0, none⟩)] w fun e w' => e = .returned (.tuple #[]) ∧ w' = w := by
  obtain ⟨j, hj, _⟩ := Option.map_eq_some_iff.1 infoBld
  have h0 : w.cell? ⟨b, 0, none⟩ = some (.pointer (some ⟨b, 0, none⟩)) := by rw [cell_of_block h]; rfl
  clear h
  go_enter Tryz.func49, Tryz.ntmps49
  go_wp2
  rw [Lib.run_neq_ptr_same w _ Tryz.underlying55 hj]
  go_wp2
  go_end0
  exact ⟨rfl, rfl⟩
theorem BI.mark {w : World} {b base : Nat} {v : Value} {acc : List UInt8} (h : BI w b base v acc) (x : Value) : Oc.OwnS (w.setCell ⟨b, 0, none⟩ x) base v acc := by
  refine ⟨h.row.1, ?_⟩
  rcases h.row.2 with h0 | ⟨g, cp, cur, hv, hg, hh, r⟩
  · exact .inl h0
  · refine .inr ⟨g, cp, cur, hv, hg, ?_, r⟩
    rw [Below.heap_setCell w ⟨b, 0, none⟩ x g (fun e => h.ne (by rw [hv, e]; rfl))]
    exact hh
theorem copy_any (b base : Nat) (v : Value) (acc : List UInt8) (w : World) (h : BI w b base v acc) :
    Calls Tryz.prog 49 #[.pointer (some ⟨b, 0, none⟩)] w fun e w' => e = .returned (.tuple #[]) ∧ w'.heap[b]? = some (.cells #[.pointer (some ⟨b, 0, none⟩), v] 57 (0, 0)) ∧ Oc.OwnS w' base v acc ∧ Bu b v.ownBlock w.heap.size w w' ∧ w'.heap.size = w.heap.size := by
  obtain ⟨p, hp, hb⟩ := h.at_
  rcases hp with rfl | rfl
  · refine (copy_fresh b v w hb).mono ?_
    rintro e w' ⟨rfl, rfl⟩
    exact ⟨rfl, block_setCell hb (i := 0) _, h.mark _, (Bu.refl _ _ _ _).setCell 0 _, by simp [World.setCell]⟩
  · refine (copy_used b v w hb).mono ?_
    rintro e w' ⟨rfl, rfl⟩
    exact ⟨rfl, hb, h.row, Bu.refl _ _ _ _, rfl⟩
theorem BI.wrote {w w1 w2 : World} {b base : Nat} {v v' : Value} {acc acc' : List UInt8} (h : BI w b base v acc) (hb1 : w1.heap[b]? = some (.cells #[.pointer (some ⟨b, 0, none⟩), v] 57 (0, 0))) (h1 : Bu b v.ownBlock w.heap.size w w1) (hs : w1.heap.size = w.heap.size) (h2 : Bu w1.heap.size v.ownBlock w1.heap.size w1 w2) (ho : Oc.OwnS w2 base v' acc') (hm : Moved v v' w1.heap.size) :
    w2.heap[b]? = some (.cells #[.pointer (some ⟨b, 0, none⟩), v] 57 (0, 0)) ∧ BI (w2.setCell ⟨b, 1, none⟩ v') b base v' acc' ∧ Bu b v.ownBlock w.heap.size w (w2.setCell ⟨b, 1, none⟩ v') ∧ Moved v v' w.heap.size := by
  have hlt := h.lt
  have hbb : w2.heap[b]? = some (.cells #[.pointer (some ⟨b, 0, none⟩), v] 57 (0, 0)) := (h2.block b (by omega) (by omega) (fun e => h.ne e.symm)).trans hb1
  have hne : v'.ownBlock ≠ some b := fun hv => by
    rcases hm b hv with h3 | h3
    · exact h.ne h3
    · omega
  refine ⟨hbb, ⟨⟨_, .inr rfl, block_setCell hbb (i := 1) _⟩, ho.1, ?_⟩, ?_, by rw [← hs]; exact hm⟩
  · rcases ho.2 with h0 | ⟨g, cp, cur, hv, hg, hh, r⟩
    · exact .inl h0
    · refine .inr ⟨g, cp, cur, hv, hg, ?_, r⟩
      rw [Below.heap_setCell w2 ⟨b, 1, none⟩ v' g (fun e => hne (by rw [hv, e]; rfl))]
      exact hh
  · have h2' : Bu b v.ownBlock w.heap.size w1 w2 := ⟨h2.os, h2.tape, h2.output, h2.size, fun k hk hkb hko => h2.block k (by omega) (by omega) hko⟩
    exact (h1.trans h2').setCell 1 v'
theorem owns_slice {w : World} {base : Nat} {v : Value} {acc : List UInt8} (h : Oc.OwnS w base v acc) : ∃ a n c, v = .slice a n c := by
  rcases h.2 with ⟨hv, h0⟩ | ⟨g, cp, cur, hv, _⟩
  · exact ⟨none, 0, 0, hv⟩
  · exact ⟨_, _, _, hv⟩
set_option maxHeartbeats 1000000 in
theorem writeByte_any (b base : Nat) (v : Value) (acc : List UInt8) (c : UInt8) (w : World) (h : BI w b base v acc) (hb : base ≤ w.heap.size) (hn : acc.length + 1 ≤ 140737488355328) :
    Calls Tryz.prog 37 #[.pointer (some ⟨b, 0, none⟩), .int .u8 (c.toNat : Nat)] w fun e w' => e = .returned .nilIface ∧ ∃ v', BI w' b base v' (acc ++ [c]) ∧ Bu b v.ownBlock w.heap.size w w' ∧ Moved v v' w.heap.size := by
  go_enter Tryz.func37, Tryz.ntmps37
  go_wp2_with fail
  refine (copy_any b base v acc w h).mono ?_
  rintro e w1 ⟨rfl, hb1, ho1, hbu1, hs1⟩
  obtain ⟨v', w2, hr, ho2, hbu2, hm2⟩ := put_bytes w1 base v acc [c] ho1 (by omega) (by simpa using hn)
  obtain ⟨hb2, hI, hB, hM⟩ := h.wrote hb1 hbu1 hs1 hbu2 ho2 hm2
  have c1 : w1.cell? ⟨b, 1, none⟩ = some v := by rw [cell_of_block hb1]; rfl
  have d1 : w2.cell? ⟨b, 1, none⟩ = some v := by rw [cell_of_block hb2]; rfl
  have f1 : w2.frozen? ⟨b, 1, none⟩ = false := unfrozen_of_block hb2 1
  simp only [List.length_cons, List.length_nil, List.map_cons, List.map_nil, bv, Nat.zero_add] at hr
  rw [hs1] at hr
  obtain ⟨av, nv, cv, rfl⟩ := owns_slice ho2
  clear h hb1 ho1 hbu1 hbu2 hb2 ho2 hm2
  go_wp2_with (at_builtin; refine wpList_append_run rfl (.tmp 11) (.tmp 13) 50 50 rfl _ _ rfl rfl _ w2 hr ?_; clear hr)
  go_ret
  exact ⟨rfl, _, hI, hB, hM⟩
set_option maxHeartbeats 1000000 in
theorem writeString_any (b base : Nat) (v : Value) (acc : List UInt8) (s : ByteArray) (w : World) (h : BI w b base v acc) (hb : base ≤ w.heap.size) (hn : acc.length + s.size ≤ 140737488355328) :
    Calls Tryz.prog 38 #[.pointer (some ⟨b, 0, none⟩), .string s] w fun e w' => e = .returned (.tuple #[.int .i64 (s.size : Nat), .nilIface]) ∧ ∃ v', BI w' b base v' (acc ++ tl s) ∧ Bu b v.ownBlock w.heap.size w w' ∧ Moved v v' w.heap.size := by
  go_enter Tryz.func38, Tryz.ntmps38
  go_wp2_with fail
  refine (copy_any b base v acc w h).mono ?_
  rintro e w1 ⟨rfl, hb1, ho1, hbu1, hs1⟩
  obtain ⟨v', w2, hr, ho2, hbu2, hm2⟩ := put_string w1 base v acc s ho1 (by omega) hn
  obtain ⟨hb2, hI, hB, hM⟩ := h.wrote hb1 hbu1 hs1 hbu2 ho2 hm2
  have c1 : w1.cell? ⟨b, 1, none⟩ = some v := by rw [cell_of_block hb1]; rfl
  have d1 : w2.cell? ⟨b, 1, none⟩ = some v := by rw [cell_of_block hb2]; rfl
  have f1 : w2.frozen? ⟨b, 1, none⟩ = false := unfrozen_of_block hb2 1
  obtain ⟨av, nv, cv, rfl⟩ := owns_slice ho2
  clear h hb1 ho1 hbu1 hbu2 hb2 ho2 hm2
  go_wp2_with (at_builtin; refine wpList_append_run rfl (.tmp 12) (.tmp 13) 50 9 rfl _ _ rfl rfl _ w2 hr ?_; clear hr)
  go_ret2
  exact ⟨rfl, _, hI, hB, hM⟩
end Go.Proofs.YtonbfcpbgkpbaaaGreatDoor
end
