import Derived.Test.YtonbfcpbgkpbaabJ11
import Derived.Test.YtonbfcpbgkpbaabJ8
import Derived.Test.YtonbfcpbgkpbaabJ9
section
/- recipe.Quote and the reader's own: their contracts. -/
namespace Go.Proofs.Ytonbfcpbgkpbaab
open Go.RowKit Go.Sort Go.Joins
set_option linter.unusedVariables false
set_option linter.unusedSimpArgs false
set_option maxRecDepth 100000
def hexC (n : Nat) : UInt8 := UInt8.ofNat (if n < 10 then 48 + n else 87 + n)
/-- A byte as a word has it. -/
def quoteB (c : UInt8) : List UInt8 := if c.toNat = 34 ∨ c.toNat = 92 then [92, c] else if 32 ≤ c.toNat ∧ c.toNat ≤ 126 then [c] else [92, hexC (c.toNat / 16), hexC (c.toNat % 16)]
def quoteF (l : List UInt8) : List UInt8 := 34 :: (l.flatMap quoteB ++ [34])
theorem quoteB_len (c : UInt8) : (quoteB c).length ≤ 3 := by
  unfold quoteB
  split
  · simp
  · split <;> simp
theorem quoteT_len (l : List UInt8) : (l.flatMap quoteB).length ≤ 3 * l.length := by
  induction l with
  | nil => simp
  | cons c l ih => rw [List.flatMap_cons, List.length_append, List.length_cons]; have := quoteB_len c; omega
theorem index_hex (n : Nat) (h : n < 16) (w : World) : (Instr.index 9 (.string ⟨#[48, 49, 50, 51, 52, 53, 54, 55, 56, 57, 97, 98, 99, 100, 101, 102]⟩) (.int .u8 (n : Nat))).run Try.prog w = .ok (.int .u8 ((hexC n).toNat : Nat)) w := by
  have : n = 0 ∨ n = 1 ∨ n = 2 ∨ n = 3 ∨ n = 4 ∨ n = 5 ∨ n = 6 ∨ n = 7 ∨ n = 8 ∨ n = 9 ∨ n = 10 ∨ n = 11 ∨ n = 12 ∨ n = 13 ∨ n = 14 ∨ n = 15 := by omega
  rcases this with rfl | rfl | rfl | rfl | rfl | rfl | rfl | rfl | rfl | rfl | rfl | rfl | rfl | rfl | rfl | rfl <;> (show _ = _; kernel_rfl)
theorem index_exec (n : Nat) (h : n < 16) (o : Oper) (x : Operand) (hop : o.op = Op.index 9 (.const (.string ⟨#[48, 49, 50, 51, 52, 53, 54, 55, 56, 57, 97, 98, 99, 100, 101, 102]⟩)) x) (a : Act) (hx : a.eval x = .int .u8 (n : Nat)) (w : World) : (execOp a.eval o).run Try.prog w = .ok (.value (.int .u8 ((hexC n).toNat : Nat))) w := by
  have hi := index_hex n h w
  have hc : a.eval (.const (.string ⟨#[48, 49, 50, 51, 52, 53, 54, 55, 56, 57, 97, 98, 99, 100, 101, 102]⟩)) = .string ⟨#[48, 49, 50, 51, 52, 53, 54, 55, 56, 57, 97, 98, 99, 100, 101, 102]⟩ := rfl
  simp only [execOp, hop, hx, hc, Sem.run_bind, hi, Result.andThen]
  rfl
theorem and_15 : ∀ n : Nat, n < 256 → bits BinOp.and IntKind.u8 (n : Int) 15 = ((n % 16 : Nat) : Int) := by decide
theorem own_row (W : World) (r : List UInt8) : Oc.BS (W.alloc (.cells (r.map fun c => Value.int .u8 (c.toNat : Int)).toArray 5)) (some ⟨W.heap.size, 0, none⟩) r := Oc.BS.new W r 5
def bv (c : UInt8) : Value := .int .u8 (c.toNat : Int)
/-- Bytes are laid behind what is written: which block turns. -/
theorem put_bytes (wr : World) (base : Nat) (v : Value) (acc r : List UInt8) (h : Oc.OwnS wr base v acc) (hb : base ≤ wr.heap.size) (hn : acc.length + r.length ≤ 140737488355328) :
    ∃ v' w', (Builtin.append_ #[76, 76] 76 #[v, .slice (some ⟨wr.heap.size, 0, none⟩) r.length r.length]).run Try.prog (wr.alloc (.cells (r.map bv).toArray 5)) = .ok v' w' ∧ Oc.OwnS w' base v' (acc ++ r) ∧ Bu wr.heap.size v.ownBlock wr.heap.size wr w' ∧ Moved v v' wr.heap.size := by
  obtain ⟨i0, hi, hz0, hz1, hz2⟩ := info_parts Oc.info5
  have hbx : Below wr.heap.size wr (wr.alloc (.cells (r.map bv).toArray 5)) := box_below wr _
  have hown : Oc.OwnS (wr.alloc (.cells (r.map bv).toArray 5)) base v acc := h.below hbx (Nat.le_refl _)
  have hx := heap_alloc_new wr (.cells (r.map bv).toArray 5)
  obtain ⟨W, hW⟩ : ∃ W, W = wr.alloc (.cells (r.map bv).toArray 5) := ⟨_, rfl⟩
  have hsz : W.heap.size = wr.heap.size + 1 := by rw [hW]; simp
  rw [← hW] at hbx hown hx ⊢
  have hc : ∀ j u, (r.map bv)[j]? = some u → W.cell? ((⟨wr.heap.size, 0, none⟩ : Addr).add j) = some u := by
    intro j u hu
    rw [cell_add, Nat.zero_add, cell_of_block hx]
    simpa using hu
  have h1c : ∀ u ∈ r.map bv, u.oneCell' = true := by
    intro u hu
    obtain ⟨c, -, rfl⟩ := List.mem_map.1 hu
    rfl
  have hend : ∀ (v' : Value) (w' : World), w'.ownsRow base 5 1 v' (acc.length + r.length) (acc.map bv ++ r.map bv) → Oc.OwnS w' base v' (acc ++ r) := by
    intro v' w' h
    unfold Oc.OwnS Oc.cellsOf
    rw [List.length_append, List.map_append]
    exact h
  have hfin : ∀ (v' : Value) (w' : World), W.grownBy w' v.ownBlock → (∀ b, v'.ownBlock = some b → v.ownBlock = some b ∨ W.heap.size ≤ b) → Bu wr.heap.size v.ownBlock wr.heap.size wr w' ∧ Moved v v' wr.heap.size := by
    intro v' w' h3 h4
    refine ⟨⟨h3.os.trans hbx.os, h3.tape.trans hbx.tape, h3.output.trans hbx.output, Nat.le_trans hbx.size h3.size, fun k hk hne ho => (h3.block k (by omega) ho).trans (hbx.block k hk)⟩, fun b hbb => ?_⟩
    rcases h4 b hbb with h | h
    · exact .inl h
    · exact .inr (by omega)
  rcases hown.2 with ⟨rfl, h0⟩ | ⟨g, cp, cur, rfl, hg, hh, hn2, hm, hcs, ht⟩
  · obtain ⟨v', w', h1, h2, h3, _⟩ := run_append_own (P := Try.prog) W W.heap.size 76 76 5 i0 _ 1 1 Try.underlying76 hi hz0 hz1 hz2 (by simp [Value.cells]) (by decide) (.slice none 0 0) acc.length (acc.map bv) ⟨hown.1, .inl ⟨rfl, h0⟩⟩ ⟨wr.heap.size, 0, none⟩ r.length r.length (r.map bv) (by simp) hc h1c (by unfold maxLen; omega) (by omega) (Nat.le_refl _)
    refine ⟨v', w', h1, hend v' w' (ownsRow_le h2 (by omega)), hfin v' w' h3 fun i hi => .inr ?_⟩
    rcases h2.2 with ⟨hv, _⟩ | ⟨b2, cap2, cur2, hv, hbb, _⟩
    · rw [hv] at hi; cases hi
    · rw [hv] at hi; cases hi; exact hbb
  · by_cases hroom : acc.length + r.length ≤ cp
    · obtain ⟨w', h1, h2, h3⟩ := run_append_fits (P := Try.prog) W base 76 76 5 i0 1 Try.underlying76 hi hz1 g acc.length cp (acc.map bv) hown ⟨wr.heap.size, 0, none⟩ r.length r.length (r.map bv) (by simp) hc h1c hroom
      exact ⟨_, w', h1, hend _ w' h2, hfin _ w' h3 (fun i hi => .inl hi)⟩
    · obtain ⟨v', w', h1, h2, h3⟩ := run_append_arg_grows (P := Try.prog) W 76 76 5 i0 _ 1 1 Try.underlying76 hi hz0 hz1 hz2 (by simp [Value.cells]) (by decide) ⟨g, 0, none⟩ acc.length cp (acc.map bv) (by simp) (fun j u hu => by
        have hj : j < acc.length * 1 := by have := (List.getElem?_eq_some_iff.1 hu).1; simpa using this
        rw [cell_add, Nat.zero_add, World.ownsRow.cellAt hown j hj]; exact hu) ⟨wr.heap.size, 0, none⟩ r.length r.length (r.map bv) (by simp) hc (by omega) (by unfold maxLen; omega) (by omega)
      have h3' : W.grownBy w' (Value.slice (some ⟨g, 0, none⟩) acc.length cp).ownBlock := ⟨h3.os, h3.tape, h3.output, h3.size, fun j hj _ => h3.block j hj (by simp)⟩
      refine ⟨v', w', h1, hend v' w' (ownsRow_le h2 (by omega)), hfin v' w' h3' fun i hi => .inr ?_⟩
      rcases h2.2 with ⟨hv, _⟩ | ⟨b2, cap2, cur2, hv, hbb, _⟩
      · rw [hv] at hi; cases hi
      · rw [hv] at hi; cases hi; exact hbb
set_option maxHeartbeats 2000000 in
theorem quote_any (s : ByteArray) (w : World) (hs : s.size ≤ 4194304) :
    Calls Try.prog 21 #[.string s] w fun e w' => e = .returned (.string (textOf (quoteF (tl s)))) ∧ Below w.heap.size w w' := by
  obtain ⟨Q, hQ⟩ : ∃ Q, Q = quoteF (tl s) := ⟨_, rfl⟩
  rw [← hQ]
  have HQ := Lib.hid hQ
  have hb0 := box_below w (.cells #[.int .u8 34] 5)
  have hO0 : Oc.OwnS (w.alloc (.cells #[.int .u8 34] 5)) w.heap.size (.slice (some ⟨w.heap.size, 0, none⟩) 1 1) [34] := ⟨rfl, .inr ⟨w.heap.size, 1, _, rfl, Nat.le_refl _, heap_alloc_new w _, Nat.le_refl _, by decide, rfl, rfl⟩⟩
  obtain ⟨w1, hw1⟩ : ∃ w1, w1 = w.alloc (.cells #[.int .u8 34] 5) := ⟨_, rfl⟩
  rw [← hw1] at hb0 hO0
  have HW1 := Lib.hid hw1
  have hcv := Lib.run_convert_string_bytes (P := Try.prog) w1 9 76 5 s Try.underlying9 Try.underlying76 Try.underlying5
  have hcell := Lib.bytesWorld_cell w1 5 s
  have hbl := bytesWorld_below w1 s
  obtain ⟨z, hz⟩ : ∃ z, z = w1.heap.size := ⟨_, rfl⟩
  obtain ⟨W, hW⟩ : ∃ W, W = Lib.bytesWorld w1 5 s := ⟨_, rfl⟩
  rw [← hW] at hcell hbl
  rw [← hz] at hcell
  obtain ⟨cp, hcp⟩ : ∃ cp, cp = grownCap w1 s.size 0 5 := ⟨_, rfl⟩
  have hcv2 : (convert 9 76 (.string s)).run Try.prog (w.alloc (.cells #[.int .u8 34] 5)) = .ok (.slice (some ⟨z, 0, none⟩) s.size cp) W := by rw [← hw1, hz, hW, hcp]; exact hcv
  have hO1 := hO0.below hbl (Nat.le_refl _)
  have hb1 := hb0.trans (hbl.mono hb0.size)
  have hzz : z = w.heap.size + 1 := by rw [hz, hw1]; simp
  have HC := Lib.hid hcell
  have HZZ := Lib.hid hzz
  have HO := Lib.hid hO1
  have HB := Lib.hid hb1
  clear hQ hw1 hcell hbl hz hW hO0 hb0 hO1 hb1 hcv hcp hzz
  go_enter Try.func21, Try.ntmps21
  go_wp2_with fail
  go_loopw [3, 10] (fun sv i wr => ∃ (k : Nat) (acc : List UInt8) (v : Value), v = sv ∧ k ≤ s.size ∧ i = .int .i64 (k : Nat) ∧ acc = 34 :: ((tl s).take k).flatMap quoteB ∧ Oc.OwnS wr w.heap.size v acc ∧ Below w.heap.size w wr ∧ wr.heap[z]? = W.heap[z]? ∧ (∀ i, v.ownBlock = some i → i ≠ z)) (fun _ i _ => s.size - (intOf i).toNat)
  case atStart => exact ⟨0, [34], _, rfl, Nat.zero_le _, rfl, rfl, HO.out, HB.out, rfl, fun i hi => by have hi : w.heap.size = i := Option.some.inj hi; have := HZZ.out; omega⟩
  case round =>
    obtain ⟨k, acc, v, rfl, hk, rfl, hacc, hOw, hBw, hzk, hoz⟩ := hrel
    have hal : acc.length ≤ 12582913 := by
      rw [hacc, List.length_cons]
      have := quoteT_len ((tl s).take k)
      rw [List.length_take] at this
      omega
    have hap : 0 < acc.length := by rw [hacc]; simp
    obtain ⟨gb, cap, hv, hgb, -⟩ := hOw.form hap
    have hbs := hBw.size
    by_cases hlt : k < s.size
    · have hkl : k < (tl s).length := by simpa using hlt
      have g0 : decide ((k : Int) < (s.size : Int)) = true := decide_eq_true (by omega)
      have ck0 := HC.out k hlt
      rw [show s.data.toList.getD k 0 = (tl s)[k] by simp [List.getD, hlt]] at ck0
      have hzW : z < W.heap.size := World.block_lt_of_cell? W _ ck0
      have hzr : z < wr.heap.size := by
        obtain ⟨o, ho⟩ : ∃ o, W.heap[z]? = some o := ⟨_, Array.getElem?_eq_getElem hzW⟩
        exact (Array.getElem?_eq_some_iff.1 (hzk.trans ho)).1
      have ck : wr.cell? ⟨z, k, none⟩ = some (.int .u8 (((tl s)[k]).toNat : Int)) := by
        rw [← ck0]; unfold World.cell?; simp only [hzk]
      obtain ⟨c, hc⟩ : ∃ c, c = (tl s)[k] := ⟨_, rfl⟩
      have hs1 : 34 :: ((tl s).take (k + 1)).flatMap quoteB = acc ++ quoteB c := by
        rw [List.take_succ_eq_append_getElem hkl, List.flatMap_append, hacc, hc]
        simp
      rw [← hc] at ck
      have HST : Hid (∀ (v2 : Value) (w2 : World) (r : List UInt8), Oc.OwnS w2 w.heap.size v2 (acc ++ r) → Bu wr.heap.size v.ownBlock wr.heap.size wr w2 → Moved v v2 wr.heap.size → quoteB c = r → ∃ acc', acc' = 34 :: ((tl s).take (k + 1)).flatMap quoteB ∧ Oc.OwnS w2 w.heap.size v2 acc' ∧ Below w.heap.size w w2 ∧ w2.heap[z]? = W.heap[z]? ∧ (∀ i, v2.ownBlock = some i → i ≠ z)) := Lib.hid (fun v2 w2 r h1 h2 h3 hq => by
        refine ⟨_, hs1.symm, by rw [hq]; exact h1, ?_, ?_, ?_⟩
        · refine ⟨h2.os.trans hBw.os, h2.tape.trans hBw.tape, h2.output.trans hBw.output, Nat.le_trans hbs h2.size, fun j hj => ?_⟩
          refine (h2.block j (by omega) (by omega) ?_).trans (hBw.block j hj)
          intro e
          rw [hv] at e
          have e : j = gb := Option.some.inj e
          omega
        · exact (h2.block z hzr (by omega) (fun e => hoz z e.symm rfl)).trans hzk
        · intro i hi
          rcases h3 i hi with h | h
          · exact hoz i h
          · omega)
      have hb8 : c.toNat < 256 := UInt8.toNat_lt c
      clear hs1 hc ck0 hacc hzk hoz hzW hzr hkl hv hgb
      by_cases hA : c.toNat = 34 ∨ c.toNat = 92
      · have hq : quoteB c = [92, c] := by unfold quoteB; rw [if_pos hA]
        have HQB := Lib.hid hq
        obtain ⟨v2, w2, hr, hO2, hB2, hM2⟩ := put_bytes wr w.heap.size v acc [92, c] hOw hbs (by show acc.length + 2 ≤ _; omega)
        have hr : (Builtin.append_ #[76, 76] 76 #[v, .slice (some ⟨wr.heap.size, 0, none⟩) 2 2]).run Try.prog (wr.alloc (.cells #[.int .u8 92, .int .u8 (c.toNat : Int)] 5)) = .ok v2 w2 := hr
        have HEND := HST.out v2 w2 [92, c] hO2 hB2 hM2
        have HE := Lib.hid HEND
        clear hO2 hB2 hM2 HEND
        rcases hA with hA | hA
        · have g1 : ((c.toNat : Int) == 34) = true := by simp; omega
          clear hA hq hOw
          generalize c.toNat = cn at *
          go_wp2_with (at_builtin; refine wpList_append_run rfl (.tmp 30) (.tmp 32) 76 76 rfl _ _ rfl rfl _ w2 hr ?_; clear hr)
          obtain ⟨acc', ha, hE⟩ := HE.out HQB.out
          exact ⟨⟨k + 1, acc', _, rfl, by omega, by go_num, ha, hE⟩, by simp only [intOf]; omega⟩
        · have g1 : ((c.toNat : Int) == 34) = false := by simp; omega
          have g2 : ((c.toNat : Int) == 92) = true := by simp; omega
          clear hA hq hOw
          generalize c.toNat = cn at *
          go_wp2_with (at_builtin; refine wpList_append_run rfl (.tmp 30) (.tmp 32) 76 76 rfl _ _ rfl rfl _ w2 hr ?_; clear hr)
          obtain ⟨acc', ha, hE⟩ := HE.out HQB.out
          exact ⟨⟨k + 1, acc', _, rfl, by omega, by go_num, ha, hE⟩, by simp only [intOf]; omega⟩
      · have g1 : ((c.toNat : Int) == 34) = false := by simp; omega
        have g2 : ((c.toNat : Int) == 92) = false := by simp; omega
        have HS := isShown_any (c.toNat : Int) wr
        by_cases hB : 32 ≤ c.toNat ∧ c.toNat ≤ 126
        · have hq : quoteB c = [c] := by unfold quoteB; rw [if_neg hA, if_pos hB]
          have HQB := Lib.hid hq
          rw [show (decide ((32 : Int) ≤ (c.toNat : Int)) && decide ((c.toNat : Int) ≤ 126)) = true by simp; omega] at HS
          obtain ⟨v2, w2, hr, hO2, hB2, hM2⟩ := put_bytes wr w.heap.size v acc [c] hOw hbs (by show acc.length + 1 ≤ _; omega)
          have hr : (Builtin.append_ #[76, 76] 76 #[v, .slice (some ⟨wr.heap.size, 0, none⟩) 1 1]).run Try.prog (wr.alloc (.cells #[.int .u8 (c.toNat : Int)] 5)) = .ok v2 w2 := hr
          have HEND := HST.out v2 w2 [c] hO2 hB2 hM2
          have HE := Lib.hid HEND
          clear hO2 hB2 hM2 HEND
          clear hA hB hq
          go_wp2_with fail
          refine HS.mono ?_
          rintro e w3 ⟨rfl, he⟩
          obtain rfl := he.symm
          go_wp2_with (at_builtin; refine wpList_append_run rfl (.tmp 38) (.tmp 40) 76 76 rfl _ _ rfl rfl _ w2 hr ?_; clear hr)
          obtain ⟨acc', ha, hE⟩ := HE.out HQB.out
          exact ⟨⟨k + 1, acc', _, rfl, by omega, by go_num, ha, hE⟩, by simp only [intOf]; omega⟩
        · have hq : quoteB c = [92, hexC (c.toNat / 16), hexC (c.toNat % 16)] := by unfold quoteB; rw [if_neg hA, if_neg hB]
          have HQB := Lib.hid hq
          rw [show (decide ((32 : Int) ≤ (c.toNat : Int)) && decide ((c.toNat : Int) ≤ 126)) = false by simp; omega] at HS
          obtain ⟨n1, hn1⟩ : ∃ n, n = c.toNat / 16 := ⟨_, rfl⟩
          obtain ⟨n2, hn2⟩ : ∃ n, n = c.toNat % 16 := ⟨_, rfl⟩
          have h15 := and_15 c.toNat hb8
          rw [← hn2] at h15
          rw [← hn1, ← hn2] at HQB
          have HA15 := Lib.hid h15
          have HE1 := Lib.hid hn1
          have HN1 : Hid (n1 < 16) := Lib.hid (by omega)
          have HN2 : Hid (n2 < 16) := Lib.hid (by omega)
          clear hn1 hn2 h15
          obtain ⟨v2, w2, hr, hO2, hB2, hM2⟩ := put_bytes wr.drew w.heap.size v acc [92, hexC n1, hexC n2] hOw hbs (by show acc.length + 3 ≤ _; omega)
          have hr : (Builtin.append_ #[76, 76] 76 #[v, .slice (some ⟨wr.heap.size, 0, none⟩) 3 3]).run Try.prog (wr.drew.alloc (.cells #[.int .u8 92, .int .u8 ((hexC n1).toNat : Int), .int .u8 ((hexC n2).toNat : Int)] 5)) = .ok v2 w2 := hr
          have HEND := HST.out v2 w2 [92, hexC n1, hexC n2] hO2 ⟨hB2.os, hB2.tape, hB2.output, hB2.size, hB2.block⟩ hM2
          have HE := Lib.hid HEND
          clear hO2 hB2 hM2 HEND
          clear hA hB hq
          go_wp2_with fail
          refine HS.mono ?_
          rintro e w3 ⟨rfl, he⟩
          obtain rfl := he.symm
          go_upto_region 5 with fail
          refine wp_region_heldtail 9 (fun _ : World => True) (by kernel_rfl) (by kernel_rfl) ?_
          refine HL_take (i := 0) v (by kernel_rfl) rfl (by omega) (by kernel_rfl) (by kernel_rfl) (by kernel_rfl) (fun _ _ _ h => h) (.inl ⟨by kernel_rfl, fun w' hw' => by go_simp⟩) trivial ?_
          simp only [Act.put, List.setIfInBounds_toArray, List.set_cons_zero, List.set_cons_succ]
          refine HL_take (i := 1) (.int .u8 (c.toNat : Int)) (by kernel_rfl) rfl (by omega) (by kernel_rfl) (by kernel_rfl) (by kernel_rfl) (fun _ _ _ h => h) (.inl ⟨by kernel_rfl, fun w' hw' => by go_simp⟩) trivial ?_
          simp only [Act.put, List.setIfInBounds_toArray, List.set_cons_zero, List.set_cons_succ]
          refine HL_take (i := 2) (.int .u8 (n1 : Nat)) (by kernel_rfl) rfl (by omega) (by kernel_rfl) (by kernel_rfl) (by kernel_rfl) (fun _ _ _ h => h) (.inl ⟨by kernel_rfl, fun w' hw' => by go_simp; have := HE1.out; omega⟩) trivial ?_
          simp only [Act.put, List.setIfInBounds_toArray, List.set_cons_zero, List.set_cons_succ]
          refine HL_take (i := 3) (.int .u8 ((hexC n1).toNat : Int)) (by kernel_rfl) rfl (by omega) (by kernel_rfl) (by kernel_rfl) (by kernel_rfl) (fun _ _ _ h => h) (.inl ⟨by kernel_rfl, fun w' hw' => index_exec n1 HN1.out _ (.tmp 16) rfl _ rfl w'⟩) trivial ?_
          simp only [Act.put, List.setIfInBounds_toArray, List.set_cons_zero, List.set_cons_succ]
          refine HL_take (i := 4) (.int .u8 (c.toNat : Int)) (by kernel_rfl) rfl (by omega) (by kernel_rfl) (by kernel_rfl) (by kernel_rfl) (fun _ _ _ h => h) (.inl ⟨by kernel_rfl, fun w' hw' => by go_simp⟩) trivial ?_
          simp only [Act.put, List.setIfInBounds_toArray, List.set_cons_zero, List.set_cons_succ]
          refine HL_take (i := 5) (.int .u8 (n2 : Nat)) (by kernel_rfl) rfl (by omega) (by kernel_rfl) (by kernel_rfl) (by kernel_rfl) (fun _ _ _ h => h) (.inl ⟨by kernel_rfl, fun w' hw' => by go_simp; exact HA15.out⟩) trivial ?_
          simp only [Act.put, List.setIfInBounds_toArray, List.set_cons_zero, List.set_cons_succ]
          refine HL_take (i := 6) (.int .u8 ((hexC n2).toNat : Int)) (by kernel_rfl) rfl (by omega) (by kernel_rfl) (by kernel_rfl) (by kernel_rfl) (fun _ _ _ h => h) (.inl ⟨by kernel_rfl, fun w' hw' => index_exec n2 HN2.out _ (.tmp 19) rfl _ rfl w'⟩) trivial ?_
          simp only [Act.put, List.setIfInBounds_toArray, List.set_cons_zero, List.set_cons_succ]
          refine HL_one (i := 7) rfl (by omega) (by kernel_rfl) rfl ?_
          refine wp_value (v := .slice (some ⟨wr.heap.size, 0, none⟩) 3 3) (w' := wr.drew.alloc (.cells #[.int .u8 92, .int .u8 ((hexC n1).toNat : Int), .int .u8 ((hexC n2).toNat : Int)] 5)) (by go_simp) ?_
          refine ⟨trivial, ?_⟩
          simp only [Act.put, List.setIfInBounds_toArray, List.set_cons_zero, List.set_cons_succ]
          refine HL_one (i := 8) rfl (by omega) (by kernel_rfl) rfl ?_
          refine wp_append (.tmp 14) (.tmp 21) 76 76 (by kernel_rfl) v (.slice (some ⟨wr.heap.size, 0, none⟩) 3 3) (by go_simp) (by go_simp) (fun v' w' => v' = v2 ∧ w' = w2) ⟨_, w2, hr, rfl, rfl⟩ ?_
          rintro _ _ ⟨rfl, rfl⟩
          refine ⟨trivial, ?_⟩
          simp only [Act.put, List.setIfInBounds_toArray, List.set_cons_zero, List.set_cons_succ]
          refine ⟨by kernel_rfl, ?_⟩
          simp only [List.drop_succ_cons, List.drop_zero]
          clear hr
          go_wp2_with fail
          obtain ⟨acc', ha, hE⟩ := HE.out HQB.out
          exact ⟨⟨k + 1, acc', _, rfl, by omega, by go_num, ha, hE⟩, by simp only [intOf]; omega⟩
    · have hkk : k = s.size := by omega
      have g0 : decide ((k : Int) < (s.size : Int)) = false := decide_eq_false (by omega)
      obtain ⟨v2, w2, hr, hO2, hB2, hM2⟩ := put_bytes wr w.heap.size v acc [34] hOw hbs (by show acc.length + 1 ≤ _; omega)
      have hr : (Builtin.append_ #[76, 76] 76 #[v, .slice (some ⟨wr.heap.size, 0, none⟩) 1 1]).run Try.prog (wr.alloc (.cells #[.int .u8 34] 5)) = .ok v2 w2 := hr
      have hcv3 := text_of hO2
      have hacc2 : acc ++ [34] = Q := by
        rw [HQ.out, hacc, hkk, List.take_of_length_le (by simp)]
        unfold quoteF
        simp
      rw [hacc2] at hcv3
      have HEND : Hid (Below w.heap.size w w2) := Lib.hid ⟨hB2.os.trans hBw.os, hB2.tape.trans hBw.tape, hB2.output.trans hBw.output, Nat.le_trans hbs hB2.size, fun j hj => (hB2.block j (by omega) (by omega) (fun e => by
        rw [hv] at e
        have e : j = gb := Option.some.inj e
        omega)).trans (hBw.block j hj)⟩
      clear hO2 hB2 hM2 hacc2 hacc hv hgb hoz hzk hOw hcv2
      go_wp2_with (at_builtin; refine wpList_append_run rfl (.tmp 43) (.tmp 44) 76 76 rfl _ _ rfl rfl _ w2 hr ?_; clear hr)
      go_ret
      exact ⟨rfl, HEND.out⟩
end Go.Proofs.Ytonbfcpbgkpbaab
end
section
/- The law's known: its contract. -/
namespace Go.Proofs.Ytonbfcpbgkpbaab
open Go.RowKit Go.Sort Go.Joins
set_option linter.unusedVariables false
set_option linter.unusedSimpArgs false
set_option maxRecDepth 100000
def kSrc : ByteArray := ⟨#[109, 101, 114, 103, 101, 32, 34, 97, 34, 43, 34, 98, 34, 61, 50, 53, 54, 32, 115, 112, 97, 99, 101, 115, 123, 85, 43, 48, 48, 50, 48, 125]⟩
theorem parse_known : parseA (tl kSrc) = .ok ⟨[[97, 98]], [⟨97, 98, 256⟩], [], [], [⟨32, 32⟩]⟩ := by kernel_rfl
theorem quote_known : textOf (quoteF (tl ⟨#[97, 34, 10]⟩)) = ⟨#[34, 97, 92, 34, 92, 48, 97, 34]⟩ := by kernel_rfl
set_option maxHeartbeats 2000000 in
theorem known_any (w : World) : Calls Try.prog 7 #[] w fun e w' => e = .returned (.bool true) ∧ Below w.heap.size w w' := by
  have b1 := box_below w (.cells #[.string ⟨#[97, 98]⟩] 9)
  have k1 : WSP (w.alloc (.cells #[.string ⟨#[97, 98]⟩] 9)) (some ⟨w.heap.size, 0, none⟩) [⟨#[97, 98]⟩] := WSP.new w [⟨#[97, 98]⟩] 9
  obtain ⟨w1, hw1⟩ : ∃ w1, w1 = w.alloc (.cells #[.string ⟨#[97, 98]⟩] 9) := ⟨_, rfl⟩
  rw [← hw1] at b1 k1
  have hs1 : w1.heap.size = w.heap.size + 1 := by rw [hw1]; simp
  have b2 := box_below w1 (.cells #[.int .i64 97, .int .i64 98, .int .i64 256] 47)
  have k2 : MSP (w1.alloc (.cells #[.int .i64 97, .int .i64 98, .int .i64 256] 47)) (some ⟨w1.heap.size, 0, none⟩) [⟨97, 98, 256⟩] := MSP.new w1 [⟨97, 98, 256⟩] 47
  obtain ⟨w2, hw2⟩ : ∃ w2, w2 = w1.alloc (.cells #[.int .i64 97, .int .i64 98, .int .i64 256] 47) := ⟨_, rfl⟩
  rw [← hw2] at b2 k2
  have hs2 : w2.heap.size = w.heap.size + 2 := by rw [hw2]; simp; omega
  have b3 := box_below w2 (.cells #[.int .i32 32, .int .i32 32] 50)
  have k3 : SPS (w2.alloc (.cells #[.int .i32 32, .int .i32 32] 50)) (some ⟨w2.heap.size, 0, none⟩) [⟨32, 32⟩] := SPS.new w2 [⟨32, 32⟩] 50
  obtain ⟨w3, hw3⟩ : ∃ w3, w3 = w2.alloc (.cells #[.int .i32 32, .int .i32 32] 50) := ⟨_, rfl⟩
  rw [← hw3] at b3 k3
  have HR := reads_ok kSrc ⟨[[97, 98]], [⟨97, 98, 256⟩], [], [], [⟨32, 32⟩]⟩ (some ⟨w.heap.size, 0, none⟩) (some ⟨w1.heap.size, 0, none⟩) none none (some ⟨w2.heap.size, 0, none⟩) 1 1 0 0 1 w3 (by decide) parse_known ⟨by decide, by decide, by decide, by decide, by decide⟩ ((k1.below b2).below b3) (k2.below b3) (.inl rfl) (.inl rfl) k3
  have hb := (b1.trans (b2.mono b1.size)).trans (b3.mono (Nat.le_trans b1.size b2.size))
  have HQ := fun wx => quote_any ⟨#[97, 34, 10]⟩ wx (by decide)
  rw [quote_known] at HQ
  have HW1 := Lib.hid hw1
  have HW2 := Lib.hid hw2
  have HW3 := Lib.hid hw3
  have HB := Lib.hid hb
  have HS1 := Lib.hid hs1
  have HS2 := Lib.hid hs2
  unfold kSrc at HR
  rw [hs1, hs2] at HR
  clear hw1 hw2 hw3 hb hs1 hs2 b1 b2 b3 k1 k2 k3
  go_enter Try.func7, Try.ntmps7
  go_wp2_with fail
  rw [← HW1.out, ← HW2.out, ← HW3.out]
  refine HR.mono ?_
  rintro e w4 ⟨rfl, hb4⟩
  go_wp2_with fail
  refine (HQ _).mono ?_
  rintro e w5 ⟨rfl, hb5⟩
  go_wp2_with fail
  go_ret
  exact ⟨rfl, (HB.out.trans (hb4.mono HB.out.size)).trans (hb5.mono (Nat.le_trans HB.out.size hb4.size))⟩
end Go.Proofs.Ytonbfcpbgkpbaab
end
section
/- tesseralaw7.RecipePlaces: the walk. -/
namespace Go.Proofs.Ytonbfcpbgkpbaab
open Go.RowKit Go.Sort Go.Joins
set_option linter.unusedVariables false
set_option linter.unusedSimpArgs false
set_option maxRecDepth 100000
/-- The place's line, counted once more. -/
def nlF (s : ByteArray) (i : Nat) : Nat := 1 + Lib.countByte ((tl s).take i) 10
def few7 (s : ByteArray) : ByteArray := if 2000 < s.size then s.extract 0 2000 else s
theorem own_slice {w : World} {base : Nat} {T : TypeId} {k : Nat} {v : Value} {n : Nat} {xs : List Value} (h : w.ownsRow base T k v n xs) : ∃ x c, v = .slice x n c := by
  rcases h.2 with ⟨rfl, rfl⟩ | ⟨g, cap, cur, hv, _⟩
  · exact ⟨none, 0, rfl⟩
  · exact ⟨_, cap, hv⟩
theorem few7_size (s : ByteArray) : (few7 s).size ≤ 2000 := by
  unfold few7
  split
  · rw [ByteArray.size_extract]; omega
  · omega
theorem few7_any (s : ByteArray) (w : World) : Calls Try.prog 5 #[.string s, .int .i64 2000] w fun e w' => e = .returned (.string (few7 s)) ∧ w' = w := by
  by_cases h : 2000 < s.size
  · have hf : few7 s = s.extract 0 2000 := by unfold few7; rw [if_pos h]
    rw [hf]
    have d : decide ((2000 : Int) < (s.size : Int)) = true := decide_eq_true (by omega)
    have hle : (2000 : Int) ≤ (s.size : Int) := by omega
    go_enter Try.func5, Try.ntmps5
    go_wp2
    go_ret
    exact ⟨rfl, rfl⟩
  · have hf : few7 s = s := by unfold few7; rw [if_neg h]
    rw [hf]
    have d : decide (2000 < s.size) = false := decide_eq_false h
    go_enter Try.func5, Try.ntmps5
    go_wp2
    go_ret
    exact ⟨rfl, rfl⟩
theorem ahead_tl (s : ByteArray) (y : Nat) : (aheadT s y).data.toList = (tl s).take y := by
  unfold aheadT tl
  simp
theorem nlF_step (s : ByteArray) (j : Nat) (hj : j < s.size) : nlF s (j + 1) = nlF s j + if (s[j]).toNat = 10 then 1 else 0 := by
  unfold nlF Lib.countByte
  have hl : (tl s)[j]? = some s[j] := by unfold tl; simp [hj]; rfl
  rw [List.take_add_one, hl, Option.toList_some, List.count_append]
  by_cases h : (s[j]).toNat = 10
  · rw [if_pos h]
    have : s[j] = 10 := UInt8.toNat_inj.1 h
    rw [this]
    simp
    omega
  · rw [if_neg h]
    have : s[j] ≠ 10 := fun e => h (by rw [e]; rfl)
    simp [List.count_singleton, this]
theorem nlF_le (s : ByteArray) (j : Nat) : nlF s j ≤ 1 + s.size := by
  unfold nlF Lib.countByte
  have h1 : ((tl s).take j).count 10 ≤ ((tl s).take j).length := List.count_le_length
  rw [List.length_take, tl_len] at h1
  omega
theorem wp_named7 {P : Program} {c : Code} {Q : Exit → Act → World → Prop} {a : Act} {w : World} (h : ∀ X, X = w → c.wp P Q a X) : c.wp P Q a w := h w rfl
set_option maxHeartbeats 4000000 in
theorem places_walk (a tail : ByteArray) (w : World) (hs : a.size ≤ 9223372036854775807) :
    Calls Try.prog 3 #[.string a, .string tail] w fun e w' => e = .returned (.bool true) ∧ Below w.heap.size w w' := by
  go_enter Try.func3, Try.ntmps3
  go_wp2_with fail
  refine (few7_any a w).mono ?_
  rintro e w' ⟨rfl, hw⟩
  rw [hw]
  clear hw w'
  obtain ⟨src, hsrc⟩ : ∃ src, src = few7 a := ⟨_, rfl⟩
  have hsz : src.size ≤ 2000 := by rw [hsrc]; exact few7_size a
  rw [← hsrc]
  clear hsrc
  have hP := parse_any src (plT src) w (by omega) (fun y hy wx => placeOf_any src y.1 (by omega) (by have := (parseA_at (by rw [tl_len]; omega) hy).1; rwa [tl_len] at this) wx)
  go_wp2_with fail
  refine hP.mono ?_
  rintro e w1 ⟨hb1, hm⟩
  clear hP
  revert hm
  generalize hR : parseA (tl src) = R
  intro hm
  cases R with
  | error y =>
    obtain ⟨hy1, hy2, hy3, hy4⟩ := parseA_at (by rw [tl_len]; omega) hR
    rw [tl_len] at hy1 hy2
    have hl : (plT src y.1).1 = nlF src y.1 := by
      show 1 + Lib.countByte (aheadT src y.1).data.toList 10 = _
      rw [ahead_tl]
      rfl
    have hc : 1 ≤ (plT src y.1).2 := by unfold plT; simp
    simp only at hm
    rw [hl] at hm
    obtain ⟨cl, hcl⟩ : ∃ cl, cl = (plT src y.1).2 := ⟨_, rfl⟩
    rw [← hcl] at hm hc
    obtain ⟨yp, yk⟩ := y
    dsimp only at hm hy1 hy2 hy3 hy4
    subst hm
    unfold nil5
    clear hR hl hcl
    have dk : (((yk : Nat) : Int) == 0) = false := by simp; omega
    have dy : decide (((yp : Nat) : Int) < 0) = false := decide_eq_false (by omega)
    have dl : decide (src.size < yp) = false := decide_eq_false (by omega)
    have dc : decide (((cl : Nat) : Int) < 1) = false := decide_eq_false (by omega)
    go_upto_region 8 with fail
    refine wp_named7 fun X hX => ?_
    have bx : Below w1.heap.size w1 X := by rw [hX]; exact ((Below.refl _ w1).alloc (Nat.le_refl _) _).alloc (by simp) _
    have hp : X.heap[w1.heap.size + 1]? = some (.cells #[.int .i64 (yp : Nat), .int .i64 (nlF src yp : Nat), .int .i64 (cl : Nat)] 29 (0, 0)) := by
      rw [hX]
      have := heap_alloc_new (w1.alloc (.cells #[.slice none 0 0, .slice none 0 0, .slice none 0 0, .slice none 0 0, .slice none 0 0] 27)) (.cells #[.int .i64 (yp : Nat), .int .i64 (nlF src yp : Nat), .int .i64 (cl : Nat)] 29)
      simpa using this
    clear hX
    have p0 : X.cell? ⟨w1.heap.size + 1, 0, none⟩ = some (.int .i64 (yp : Nat)) := by rw [cell_of_row X _ 0 _ _ _ hp]; rfl
    have p1 : X.cell? ⟨w1.heap.size + 1, 1, none⟩ = some (.int .i64 (nlF src yp : Nat)) := by rw [cell_of_row X _ 1 _ _ _ hp]; rfl
    have bX := hb1.trans (bx.mono hb1.size)
    clear hp bx
    go_wp2_with fail
    go_loopw [8, 9] (fun n i wr => ∃ j : Nat, j ≤ yp ∧ i = .int .i64 (j : Nat) ∧ n = .int .i64 (nlF src j : Nat) ∧ wr = X) (fun _ i _ => yp - (intOf i).toNat)
    case atStart => exact ⟨0, Nat.zero_le _, rfl, by rw [show nlF src 0 = 1 by simp [nlF, Lib.countByte]]; rfl, rfl⟩
    case round =>
      obtain ⟨j, hj, rfl, rfl, hw⟩ := hrel
      rw [hw]
      clear hw wr
      by_cases hlt : j < yp
      · have hjs : j < src.size := by omega
        have hst := nlF_step src j hjs
        have hle := nlF_le src j
        have HST := Lib.hid hst
        obtain ⟨n, hn⟩ : ∃ n, n = nlF src j := ⟨_, rfl⟩
        rw [← hn] at hle ⊢
        have HN := Lib.hid hn
        obtain ⟨c, hc⟩ : ∃ c, c = src[j] := ⟨_, rfl⟩
        have hcj : src[j] = c := hc.symm
        have i0 : 0 ≤ (j : Int) ∧ (j : Int) < (src.size : Int) := by omega
        by_cases h10 : c.toNat = 10
        · have d0 : (((c.toNat : Nat) : Int) == 10) = true := by simp; omega
          clear hst hn hc
          go_wp2_with fail
          exact ⟨⟨j + 1, by omega, by go_num, by rw [HST.out, hcj, if_pos h10, ← HN.out]; rfl, trivial⟩, by simp only [intOf]; omega⟩
        · have d0 : (((c.toNat : Nat) : Int) == 10) = false := by simp; omega
          clear hst hn hc
          go_wp2_with fail
          exact ⟨⟨j + 1, by omega, by go_num, by rw [HST.out, hcj, if_neg h10, ← HN.out]; rfl, trivial⟩, by simp only [intOf]; omega⟩
      · have hjy : j = yp := by omega
        subst hjy
        have dn : (((nlF src j : Nat) : Int) == ((nlF src j : Nat) : Int)) = true := by simp
        obtain ⟨n, hn⟩ : ∃ n, n = nlF src j := ⟨_, rfl⟩
        rw [← hn] at p1 dn ⊢
        clear hn
        by_cases h31 : yk = 31
        · have hyz := hy2 h31
          subst h31
          have de : (((j : Nat) : Int) == ((src.size : Nat) : Int)) = true := by simp; omega
          have d1 : (((31 : Nat) : Int) != 31) = false := rfl
          clear hy2 hyz
          go_wp2_with fail
          refine (known_any X).mono ?_
          rintro e w9 ⟨rfl, hb9⟩
          go_wp2_with fail
          go_ret
          exact ⟨rfl, bX.trans (hb9.mono bX.size)⟩
        · have d1 : (((yk : Nat) : Int) != 31) = true := by simp; omega
          clear hy2
          go_wp2_with fail
          refine (known_any X).mono ?_
          rintro e w9 ⟨rfl, hb9⟩
          go_wp2_with fail
          go_ret
          exact ⟨rfl, bX.trans (hb9.mono bX.size)⟩
  | ok d =>
    obtain ⟨vW, vM, vA, vB, vC, hm, hO⟩ := hm
    subst hm
    obtain ⟨a1, c1, rfl⟩ := own_slice hO.oW
    obtain ⟨a2, c2, rfl⟩ := own_slice hO.oM
    obtain ⟨a3, c3, rfl⟩ := own_slice hO.oA
    obtain ⟨a4, c4, rfl⟩ := own_slice hO.oB
    obtain ⟨a5, c5, rfl⟩ := own_slice hO.oC
    generalize d.W.length = l1
    generalize d.M.length = l2
    generalize d.A.length = l3
    generalize d.B.length = l4
    generalize d.C.length = l5
    have hpe : ∀ w : World, (binOp BinOp.eql 29 (.agg #[.int .i64 0, .int .i64 0, .int .i64 0]) (.agg #[.int .i64 0, .int .i64 0, .int .i64 0])).run Try.prog w = .ok (.bool true) w := fun w => by kernel_rfl
    clear hO hR
    go_wp2_with fail
    refine (known_any _).mono ?_
    rintro e w9 ⟨rfl, hb9⟩
    have bX : Below w.heap.size w ((w1.alloc (.cells #[.slice a1 l1 c1, .slice a2 l2 c2, .slice a3 l3 c3, .slice a4 l4 c4, .slice a5 l5 c5] 27)).alloc (.cells #[.int .i64 0, .int .i64 0, .int .i64 0] 29)) := (hb1.alloc hb1.size _).alloc (by have := hb1.size; simp; omega) _
    go_wp2_with fail
    go_ret
    exact ⟨rfl, bX.trans (hb9.mono bX.size)⟩
end Go.Proofs.Ytonbfcpbgkpbaab
end
