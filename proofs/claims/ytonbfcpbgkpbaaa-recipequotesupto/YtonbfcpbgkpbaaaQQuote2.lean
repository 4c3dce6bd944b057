/- The reader's own Quote: its contract. -/
import Derived.Test.YtonbfcpbgkpbaaaQQuote
namespace Go.Proofs.Ytonbfcpbgkpbaaa
open Go.RowKit Go.Sort Go.Joins
set_option linter.unusedVariables false
set_option linter.unusedSimpArgs false
set_option maxRecDepth 100000
attribute [local irreducible] hexC
theorem text_new (wr : World) (r : List UInt8) : (convert 62 9 (.slice (some ⟨wr.heap.size, 0, none⟩) r.length r.length)).run Try.prog (wr.alloc (.cells (r.map bv).toArray 5)) = .ok (.string (textOf r)) (wr.alloc (.cells (r.map bv).toArray 5)) := by
  refine text_bytes 62 5 9 Try.underlying62 Try.underlying5 Try.underlying9 wr.heap.size 0 r.length r _ (fun j hj => ?_)
  rw [Nat.zero_add, cell_of_block (heap_alloc_new wr _)]
  simp [List.getD, List.getElem?_eq_getElem hj, bv]
theorem conv_exec (o : Oper) (x : Operand) (hop : o.op = Op.convert 62 9 x) (a : Act) (v : Value) (hx : a.eval x = v) (w : World) (u : Value) (h : (convert 62 9 v).run Try.prog w = .ok u w) : (execOp a.eval o).run Try.prog w = .ok (.value u) w := by
  simp only [execOp, hop, hx, Sem.run_bind, h, Result.andThen]
  rfl
set_option maxHeartbeats 4000000 in
theorem rquote_any (s : ByteArray) (w : World) (hs : s.size ≤ 4194304) :
    Calls Try.prog 10 #[.string s] w fun e w' => e = .returned (.string (textOf (quoteF (tl s)))) ∧ Below w.heap.size w w' := by
  obtain ⟨Q, hQ⟩ : ∃ Q, Q = quoteF (tl s) := ⟨_, rfl⟩
  rw [← hQ]
  have HQ := Lib.hid hQ
  clear hQ
  go_enter Try.func10, Try.ntmps10
  go_wp2_with fail
  go_loopw [3, 4] (fun sv i wr => ∃ (k : Nat) (acc : List UInt8) (x : ByteArray), Value.string x = sv ∧ k ≤ s.size ∧ i = .int .i64 (k : Nat) ∧ x = textOf acc ∧ acc = 34 :: ((tl s).take k).flatMap quoteB ∧ Below w.heap.size w wr) (fun _ i _ => s.size - (intOf i).toNat)
  case atStart => exact ⟨0, [34], _, rfl, Nat.zero_le _, rfl, rfl, rfl, Below.refl _ _⟩
  case round =>
    obtain ⟨k, acc, x, rfl, hk, rfl, hx, hacc, hBw⟩ := hrel
    have hal : x.size ≤ 12582913 := by
      rw [hx, text_size, hacc, List.length_cons]
      have := quoteT_len ((tl s).take k)
      rw [List.length_take] at this
      omega
    have hbs := hBw.size
    by_cases hlt : k < s.size
    · have hkl : k < (tl s).length := by simpa using hlt
      have g0 : decide ((k : Int) < (s.size : Int)) = true := decide_eq_true (by omega)
      obtain ⟨c, hc⟩ : ∃ c, c = (tl s)[k] := ⟨_, rfl⟩
      have hci : ∀ wx : World, (Instr.index 9 (.string s) (.int .i64 (k : Nat))).run Try.prog wx = .ok (.int .u8 (c.toNat : Int)) wx := fun wx => by
        rw [hc, show (tl s)[k] = s[k] from rfl]
        go_simp
      have hs1 : 34 :: ((tl s).take (k + 1)).flatMap quoteB = acc ++ quoteB c := by
        rw [List.take_succ_eq_append_getElem hkl, List.flatMap_append, hacc, hc]
        simp
      have HST : Hid (∀ (r : List UInt8) (y : ByteArray), quoteB c = r → y = textOf (acc ++ r) → ∃ acc', y = textOf acc' ∧ acc' = 34 :: ((tl s).take (k + 1)).flatMap quoteB) := Lib.hid (fun r y hq hy => ⟨acc ++ r, hy, by rw [hs1, hq]⟩)
      have hb8 : c.toNat < 256 := UInt8.toNat_lt c
      have HXX := Lib.hid hx
      have HBW := Lib.hid hBw
      clear hs1 hc hacc hkl hx
      by_cases hA : c.toNat = 34 ∨ c.toNat = 92
      · have hq : quoteB c = [92, c] := by unfold quoteB; rw [if_pos hA]
        have HQB := Lib.hid hq
        have hcv : (convert 62 9 (.slice (some ⟨wr.heap.size, 0, none⟩) 1 1)).run Try.prog (wr.alloc (.cells #[.int .u8 (c.toNat : Int)] 5)) = .ok (.string (textOf [c])) (wr.alloc (.cells #[.int .u8 (c.toNat : Int)] 5)) := text_new wr [c]
        have hz1 : (textOf [c]).size = 1 := rfl
        rcases hA with hA | hA
        · have g1 : ((c.toNat : Int) == 34) = true := by simp; omega
          clear hA hq
          go_wp2_with fail
          obtain ⟨acc', ha, hE⟩ := HST.out _ (x ++ { data := #[92] } ++ textOf [c]) HQB.out (by rw [HXX.out, show ({ data := #[92] } : ByteArray) = textOf [92] from rfl, text_append, text_append, List.append_assoc]; rfl)
          exact ⟨⟨k + 1, acc', _, rfl, by omega, by go_num, ha, hE, HBW.out.trans ((box_below wr _).mono hbs)⟩, by simp only [intOf]; omega⟩
        · have g1 : ((c.toNat : Int) == 34) = false := by simp; omega
          have g2 : ((c.toNat : Int) == 92) = true := by simp; omega
          clear hA hq
          go_wp2_with fail
          obtain ⟨acc', ha, hE⟩ := HST.out _ (x ++ { data := #[92] } ++ textOf [c]) HQB.out (by rw [HXX.out, show ({ data := #[92] } : ByteArray) = textOf [92] from rfl, text_append, text_append, List.append_assoc]; rfl)
          exact ⟨⟨k + 1, acc', _, rfl, by omega, by go_num, ha, hE, HBW.out.trans ((box_below wr _).mono hbs)⟩, by simp only [intOf]; omega⟩
      · have g1 : ((c.toNat : Int) == 34) = false := by simp; omega
        have g2 : ((c.toNat : Int) == 92) = false := by simp; omega
        have hz1 : (textOf [c]).size = 1 := rfl
        have hcv : (convert 62 9 (.slice (some ⟨wr.heap.size, 0, none⟩) 1 1)).run Try.prog (wr.alloc (.cells #[.int .u8 (c.toNat : Int)] 5)) = .ok (.string (textOf [c])) (wr.alloc (.cells #[.int .u8 (c.toNat : Int)] 5)) := text_new wr [c]
        by_cases hB : 32 ≤ c.toNat ∧ c.toNat ≤ 126
        · have hq : quoteB c = [c] := by unfold quoteB; rw [if_neg hA, if_pos hB]
          have HQB := Lib.hid hq
          have g3 : decide ((32 : Int) ≤ (c.toNat : Int)) = true := decide_eq_true (by omega)
          have g4 : decide ((c.toNat : Int) ≤ 126) = true := decide_eq_true (by omega)
          clear hA hB hq
          go_wp2_with fail
          obtain ⟨acc', ha, hE⟩ := HST.out _ (x ++ textOf [c]) HQB.out (by rw [HXX.out, text_append])
          exact ⟨⟨k + 1, acc', _, rfl, by omega, by go_num, ha, hE, HBW.out.trans ((box_below wr _).mono hbs)⟩, by simp only [intOf]; omega⟩
        · have hq : quoteB c = [92, hexC (c.toNat / 16), hexC (c.toNat % 16)] := by unfold quoteB; rw [if_neg hA, if_neg hB]
          have HQB := Lib.hid hq
          have hp : (∃ _ : decide ((32 : Int) ≤ (c.toNat : Int)) = true, decide ((c.toNat : Int) ≤ 126) = false) ∨ decide ((32 : Int) ≤ (c.toNat : Int)) = false := by
            by_cases h : 32 ≤ c.toNat
            · exact .inl ⟨decide_eq_true (by omega), decide_eq_false (by omega)⟩
            · exact .inr (decide_eq_false (by omega))
          obtain ⟨n1, hn1⟩ : ∃ n, n = c.toNat / 16 := ⟨_, rfl⟩
          obtain ⟨n2, hn2⟩ : ∃ n, n = c.toNat % 16 := ⟨_, rfl⟩
          have h15 := and_15 c.toNat hb8
          rw [← hn2] at h15
          rw [← hn1, ← hn2] at HQB
          have HA15 := Lib.hid h15
          have HE1 := Lib.hid hn1
          have HN1 : Hid (n1 < 16) := Lib.hid (by omega)
          have HN2 : Hid (n2 < 16) := Lib.hid (by omega)
          have hcv2 : (convert 62 9 (.slice (some ⟨wr.heap.size, 0, none⟩) 2 2)).run Try.prog (wr.drew.alloc (.cells #[.int .u8 ((hexC n1).toNat : Int), .int .u8 ((hexC n2).toNat : Int)] 5)) = .ok (.string (textOf [hexC n1, hexC n2])) (wr.drew.alloc (.cells #[.int .u8 ((hexC n1).toNat : Int), .int .u8 ((hexC n2).toNat : Int)] 5)) := text_new wr.drew [hexC n1, hexC n2]
          have hz2 : (textOf [hexC n1, hexC n2]).size = 2 := rfl
          clear hn1 hn2 h15 hcv hA hB hq
          rcases hp with ⟨g3, g4⟩ | g3
          · go_upto_region 10 with fail
            refine wp_region_heldtail 11 (fun _ : World => True) (by kernel_rfl) (by kernel_rfl) ?_
            refine HL_take (i := 0) (.string x) (by kernel_rfl) rfl (by omega) (by kernel_rfl) (by kernel_rfl) (by kernel_rfl) (fun _ _ _ h => h) (.inl ⟨by kernel_rfl, fun w' hw' => by go_simp⟩) trivial ?_
            simp only [Act.put, List.getElem_toArray, List.getElem_cons_zero, List.getElem_cons_succ, List.setIfInBounds_toArray, List.set_cons_zero, List.set_cons_succ]
            refine HL_take (i := 1) (.string (x ++ { data := #[92] })) (by kernel_rfl) rfl (by omega) (by kernel_rfl) (by kernel_rfl) (by kernel_rfl) (fun _ _ _ h => h) (.inl ⟨by kernel_rfl, fun w' hw' => by go_simp; omega⟩) trivial ?_
            simp only [Act.put, List.getElem_toArray, List.getElem_cons_zero, List.getElem_cons_succ, List.setIfInBounds_toArray, List.set_cons_zero, List.set_cons_succ]
            refine HL_take (i := 2) (.int .u8 (c.toNat : Int)) (by kernel_rfl) rfl (by omega) (by kernel_rfl) (by kernel_rfl) (by kernel_rfl) (fun _ _ _ h => h) (.inl ⟨by kernel_rfl, fun w' hw' => by go_simp⟩) trivial ?_
            simp only [Act.put, List.getElem_toArray, List.getElem_cons_zero, List.getElem_cons_succ, List.setIfInBounds_toArray, List.set_cons_zero, List.set_cons_succ]
            refine HL_take (i := 3) (.int .u8 (n1 : Nat)) (by kernel_rfl) rfl (by omega) (by kernel_rfl) (by kernel_rfl) (by kernel_rfl) (fun _ _ _ h => h) (.inl ⟨by kernel_rfl, fun w' hw' => by go_simp; have := HE1.out; omega⟩) trivial ?_
            simp only [Act.put, List.getElem_toArray, List.getElem_cons_zero, List.getElem_cons_succ, List.setIfInBounds_toArray, List.set_cons_zero, List.set_cons_succ]
            refine HL_take (i := 4) (.int .u8 ((hexC n1).toNat : Int)) (by kernel_rfl) rfl (by omega) (by kernel_rfl) (by kernel_rfl) (by kernel_rfl) (fun _ _ _ h => h) (.inl ⟨by kernel_rfl, fun w' hw' => index_exec n1 HN1.out _ (.tmp 41) rfl _ rfl w'⟩) trivial ?_
            simp only [Act.put, List.getElem_toArray, List.getElem_cons_zero, List.getElem_cons_succ, List.setIfInBounds_toArray, List.set_cons_zero, List.set_cons_succ]
            refine HL_take (i := 5) (.int .u8 (c.toNat : Int)) (by kernel_rfl) rfl (by omega) (by kernel_rfl) (by kernel_rfl) (by kernel_rfl) (fun _ _ _ h => h) (.inl ⟨by kernel_rfl, fun w' hw' => by go_simp⟩) trivial ?_
            simp only [Act.put, List.getElem_toArray, List.getElem_cons_zero, List.getElem_cons_succ, List.setIfInBounds_toArray, List.set_cons_zero, List.set_cons_succ]
            refine HL_take (i := 6) (.int .u8 (n2 : Nat)) (by kernel_rfl) rfl (by omega) (by kernel_rfl) (by kernel_rfl) (by kernel_rfl) (fun _ _ _ h => h) (.inl ⟨by kernel_rfl, fun w' hw' => by go_simp; exact HA15.out⟩) trivial ?_
            simp only [Act.put, List.getElem_toArray, List.getElem_cons_zero, List.getElem_cons_succ, List.setIfInBounds_toArray, List.set_cons_zero, List.set_cons_succ]
            refine HL_take (i := 7) (.int .u8 ((hexC n2).toNat : Int)) (by kernel_rfl) rfl (by omega) (by kernel_rfl) (by kernel_rfl) (by kernel_rfl) (fun _ _ _ h => h) (.inl ⟨by kernel_rfl, fun w' hw' => index_exec n2 HN2.out _ (.tmp 44) rfl _ rfl w'⟩) trivial ?_
            simp only [Act.put, List.getElem_toArray, List.getElem_cons_zero, List.getElem_cons_succ, List.setIfInBounds_toArray, List.set_cons_zero, List.set_cons_succ]
            refine HL_one (i := 8) rfl (by omega) (by kernel_rfl) rfl ?_
            refine wp_value (v := .slice (some ⟨wr.heap.size, 0, none⟩) 2 2) (w' := wr.drew.alloc (.cells #[.int .u8 ((hexC n1).toNat : Int), .int .u8 ((hexC n2).toNat : Int)] 5)) (by go_simp) ?_
            refine ⟨trivial, ?_⟩
            simp only [Act.put, List.getElem_toArray, List.getElem_cons_zero, List.getElem_cons_succ, List.setIfInBounds_toArray, List.set_cons_zero, List.set_cons_succ]
            refine HL_one (i := 9) rfl (by omega) (by kernel_rfl) rfl ?_
            refine wp_value (v := .string (textOf [hexC n1, hexC n2])) (w' := wr.drew.alloc (.cells #[.int .u8 ((hexC n1).toNat : Int), .int .u8 ((hexC n2).toNat : Int)] 5)) (by exact conv_exec _ (.tmp 46) rfl _ (.slice (some ⟨wr.heap.size, 0, none⟩) 2 2) rfl _ _ hcv2) ?_
            refine ⟨trivial, ?_⟩
            simp only [Act.put, List.getElem_toArray, List.getElem_cons_zero, List.getElem_cons_succ, List.setIfInBounds_toArray, List.set_cons_zero, List.set_cons_succ]
            refine HL_take (i := 10) (.string (x ++ { data := #[92] } ++ textOf [hexC n1, hexC n2])) (by kernel_rfl) rfl (by omega) (by kernel_rfl) (by kernel_rfl) (by kernel_rfl) (fun _ _ _ h => h) (.inl ⟨by kernel_rfl, fun w' hw' => by go_simp; omega⟩) trivial ?_
            simp only [Act.put, List.getElem_toArray, List.getElem_cons_zero, List.getElem_cons_succ, List.setIfInBounds_toArray, List.set_cons_zero, List.set_cons_succ]
            refine ⟨by kernel_rfl, ?_⟩
            simp only [List.drop_succ_cons, List.drop_zero]
            go_wp2_with fail
            obtain ⟨acc', ha, hE⟩ := HST.out _ (x ++ { data := #[92] } ++ textOf [hexC n1, hexC n2]) HQB.out (by rw [HXX.out, show ({ data := #[92] } : ByteArray) = textOf [92] from rfl, text_append, text_append, List.append_assoc]; rfl)
            exact ⟨⟨k + 1, acc', _, rfl, by omega, by go_num, ha, hE, HBW.out.trans (((below_drewN (Below.refl wr.heap.size wr) 1).trans (box_below wr.drew _)).mono hbs)⟩, by simp only [intOf]; omega⟩
          · go_upto_region 10 with fail
            refine wp_region_heldtail 11 (fun _ : World => True) (by kernel_rfl) (by kernel_rfl) ?_
            refine HL_take (i := 0) (.string x) (by kernel_rfl) rfl (by omega) (by kernel_rfl) (by kernel_rfl) (by kernel_rfl) (fun _ _ _ h => h) (.inl ⟨by kernel_rfl, fun w' hw' => by go_simp⟩) trivial ?_
            simp only [Act.put, List.getElem_toArray, List.getElem_cons_zero, List.getElem_cons_succ, List.setIfInBounds_toArray, List.set_cons_zero, List.set_cons_succ]
            refine HL_take (i := 1) (.string (x ++ { data := #[92] })) (by kernel_rfl) rfl (by omega) (by kernel_rfl) (by kernel_rfl) (by kernel_rfl) (fun _ _ _ h => h) (.inl ⟨by kernel_rfl, fun w' hw' => by go_simp; omega⟩) trivial ?_
            simp only [Act.put, List.getElem_toArray, List.getElem_cons_zero, List.getElem_cons_succ, List.setIfInBounds_toArray, List.set_cons_zero, List.set_cons_succ]
            refine HL_take (i := 2) (.int .u8 (c.toNat : Int)) (by kernel_rfl) rfl (by omega) (by kernel_rfl) (by kernel_rfl) (by kernel_rfl) (fun _ _ _ h => h) (.inl ⟨by kernel_rfl, fun w' hw' => by go_simp⟩) trivial ?_
            simp only [Act.put, List.getElem_toArray, List.getElem_cons_zero, List.getElem_cons_succ, List.setIfInBounds_toArray, List.set_cons_zero, List.set_cons_succ]
            refine HL_take (i := 3) (.int .u8 (n1 : Nat)) (by kernel_rfl) rfl (by omega) (by kernel_rfl) (by kernel_rfl) (by kernel_rfl) (fun _ _ _ h => h) (.inl ⟨by kernel_rfl, fun w' hw' => by go_simp; have := HE1.out; omega⟩) trivial ?_
            simp only [Act.put, List.getElem_toArray, List.getElem_cons_zero, List.getElem_cons_succ, List.setIfInBounds_toArray, List.set_cons_zero, List.set_cons_succ]
            refine HL_take (i := 4) (.int .u8 ((hexC n1).toNat : Int)) (by kernel_rfl) rfl (by omega) (by kernel_rfl) (by kernel_rfl) (by kernel_rfl) (fun _ _ _ h => h) (.inl ⟨by kernel_rfl, fun w' hw' => index_exec n1 HN1.out _ (.tmp 41) rfl _ rfl w'⟩) trivial ?_
            simp only [Act.put, List.getElem_toArray, List.getElem_cons_zero, List.getElem_cons_succ, List.setIfInBounds_toArray, List.set_cons_zero, List.set_cons_succ]
            refine HL_take (i := 5) (.int .u8 (c.toNat : Int)) (by kernel_rfl) rfl (by omega) (by kernel_rfl) (by kernel_rfl) (by kernel_rfl) (fun _ _ _ h => h) (.inl ⟨by kernel_rfl, fun w' hw' => by go_simp⟩) trivial ?_
            simp only [Act.put, List.getElem_toArray, List.getElem_cons_zero, List.getElem_cons_succ, List.setIfInBounds_toArray, List.set_cons_zero, List.set_cons_succ]
            refine HL_take (i := 6) (.int .u8 (n2 : Nat)) (by kernel_rfl) rfl (by omega) (by kernel_rfl) (by kernel_rfl) (by kernel_rfl) (fun _ _ _ h => h) (.inl ⟨by kernel_rfl, fun w' hw' => by go_simp; exact HA15.out⟩) trivial ?_
            simp only [Act.put, List.getElem_toArray, List.getElem_cons_zero, List.getElem_cons_succ, List.setIfInBounds_toArray, List.set_cons_zero, List.set_cons_succ]
            refine HL_take (i := 7) (.int .u8 ((hexC n2).toNat : Int)) (by kernel_rfl) rfl (by omega) (by kernel_rfl) (by kernel_rfl) (by kernel_rfl) (fun _ _ _ h => h) (.inl ⟨by kernel_rfl, fun w' hw' => index_exec n2 HN2.out _ (.tmp 44) rfl _ rfl w'⟩) trivial ?_
            simp only [Act.put, List.getElem_toArray, List.getElem_cons_zero, List.getElem_cons_succ, List.setIfInBounds_toArray, List.set_cons_zero, List.set_cons_succ]
            refine HL_one (i := 8) rfl (by omega) (by kernel_rfl) rfl ?_
            refine wp_value (v := .slice (some ⟨wr.heap.size, 0, none⟩) 2 2) (w' := wr.drew.alloc (.cells #[.int .u8 ((hexC n1).toNat : Int), .int .u8 ((hexC n2).toNat : Int)] 5)) (by go_simp) ?_
            refine ⟨trivial, ?_⟩
            simp only [Act.put, List.getElem_toArray, List.getElem_cons_zero, List.getElem_cons_succ, List.setIfInBounds_toArray, List.set_cons_zero, List.set_cons_succ]
            refine HL_one (i := 9) rfl (by omega) (by kernel_rfl) rfl ?_
            refine wp_value (v := .string (textOf [hexC n1, hexC n2])) (w' := wr.drew.alloc (.cells #[.int .u8 ((hexC n1).toNat : Int), .int .u8 ((hexC n2).toNat : Int)] 5)) (by exact conv_exec _ (.tmp 46) rfl _ (.slice (some ⟨wr.heap.size, 0, none⟩) 2 2) rfl _ _ hcv2) ?_
            refine ⟨trivial, ?_⟩
            simp only [Act.put, List.getElem_toArray, List.getElem_cons_zero, List.getElem_cons_succ, List.setIfInBounds_toArray, List.set_cons_zero, List.set_cons_succ]
            refine HL_take (i := 10) (.string (x ++ { data := #[92] } ++ textOf [hexC n1, hexC n2])) (by kernel_rfl) rfl (by omega) (by kernel_rfl) (by kernel_rfl) (by kernel_rfl) (fun _ _ _ h => h) (.inl ⟨by kernel_rfl, fun w' hw' => by go_simp; omega⟩) trivial ?_
            simp only [Act.put, List.getElem_toArray, List.getElem_cons_zero, List.getElem_cons_succ, List.setIfInBounds_toArray, List.set_cons_zero, List.set_cons_succ]
            refine ⟨by kernel_rfl, ?_⟩
            simp only [List.drop_succ_cons, List.drop_zero]
            go_wp2_with fail
            obtain ⟨acc', ha, hE⟩ := HST.out _ (x ++ { data := #[92] } ++ textOf [hexC n1, hexC n2]) HQB.out (by rw [HXX.out, show ({ data := #[92] } : ByteArray) = textOf [92] from rfl, text_append, text_append, List.append_assoc]; rfl)
            exact ⟨⟨k + 1, acc', _, rfl, by omega, by go_num, ha, hE, HBW.out.trans (((below_drewN (Below.refl wr.heap.size wr) 1).trans (box_below wr.drew _)).mono hbs)⟩, by simp only [intOf]; omega⟩
    · have hkk : k = s.size := by omega
      have g0 : decide ((k : Int) < (s.size : Int)) = false := decide_eq_false (by omega)
      have hacc2 : Hid (x ++ { data := #[34] } = textOf Q) := by
        refine Lib.hid ?_
        rw [hx, show ({ data := #[34] } : ByteArray) = textOf [34] from rfl, text_append, HQ.out, hacc, hkk, List.take_of_length_le (by simp)]
        unfold quoteF
        simp
      have HBW := Lib.hid hBw
      clear hacc hx hkk
      go_wp2_with fail
      go_ret
      exact ⟨by rw [hacc2.out]; rfl, HBW.out⟩
end Go.Proofs.Ytonbfcpbgkpbaaa
