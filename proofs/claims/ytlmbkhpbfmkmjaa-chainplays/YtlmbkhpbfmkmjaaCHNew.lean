/- chain.New: its contract. -/
import Derived.Test.YtlmbkhpbfmkmjaaCHCut
import Derived.Laws.MakeOwn
namespace Go.Proofs.Ytlmbkhpbfmkmjaa.CH
open Go.RowKit Go.Joins Go.Sort
set_option linter.unusedVariables false
set_option linter.unusedSimpArgs false
set_option maxRecDepth 100000
theorem info_parts {t : TypeId} {z : Value} {s b : Nat} (h : (Try.prog.info? t).map (fun i => (i.zero, i.size, i.bytes)) = some (some z, s, b)) : ∃ i, Try.prog.info? t = some i ∧ i.zero = some z ∧ i.size = s ∧ i.bytes = b := by
  cases hi : Try.prog.info? t with
  | none => rw [hi] at h; simp at h
  | some i =>
    rw [hi] at h
    simp at h
    exact ⟨i, rfl, h.1, h.2.1, h.2.2⟩
theorem infoL : (Try.prog.info? 38).map (fun i => (i.zero, i.size, i.bytes)) = some (some (.agg #[.int .i64 0, .int .i64 0]), 2, 16) := by kernel_rfl
theorem run_makeL (n : Nat) (hn : n ≤ 1048577) : ∃ arr : Array Value, (∀ i, i < n → arr[i * 2]? = some (.int .i64 0) ∧ arr[i * 2 + 1]? = some (.int .i64 0)) ∧ ∀ u : World, (Instr.makeSlice 34 (.int .i64 (n : Nat)) (.int .i64 (n : Nat))).run Try.prog u = .ok (.slice (some ⟨u.heap.size, 0, none⟩) n n) (u.alloc (.cells arr 38)) := by
  obtain ⟨i0, hi, hz0, hz1, hz2⟩ := info_parts infoL
  refine ⟨madeCells (Value.agg #[.int .i64 0, .int .i64 0]).cells (n * 2), fun i h => ?_, fun u => ?_⟩
  · have hx : ∀ j, j < n * 2 → (madeCells (Value.agg #[.int .i64 0, .int .i64 0]).cells (n * 2))[j]? = some (.int .i64 0) := by
      intro j hj
      have hs : j < (madeCells (Value.agg #[.int .i64 0, .int .i64 0]).cells (n * 2)).size := by rw [size_madeCells]; exact hj
      rw [Array.getElem?_eq_getElem hs]
      simp only [madeCells]
      rcases Nat.mod_two_eq_zero_or_one j with e | e <;> simp [Value.cells, e]
    exact ⟨hx _ (by omega), hx _ (by omega)⟩
  · have h := run_make (P := Try.prog) u 34 38 i0 _ Try.underlying34 hi hz0 .i64 .i64 (n : Int) (n : Int) (by omega) (Int.le_refl _) (by rw [hz2]; omega) (by omega)
    rw [hz1] at h
    have e : ((n : Int)).toNat = n := by omega
    rw [e] at h
    exact h
/-- All numbers below n. -/
def inn0 (n : Nat) : Nat → Bool := fun m => decide (m < n)
theorem lk_new (n : Nat) : Lk (inn0 n) n (fun i => if i = 0 then ((n : Nat) : Int) else (i : Int) - 1) (fun i => if i = n then 0 else (i : Int) + 1) := by
  have hin : ∀ m, m < n → inn0 n m = true := fun m h => decide_eq_true h
  refine ⟨fun i hi _ => ?_, fun i hi _ => ?_, fun i hi h => ?_⟩
  · unfold nxF
    by_cases e : i = n
    · rw [if_pos e, if_pos e]
      cases n with
      | zero => rfl
      | succ n => rw [up_all (hin 0 (by omega))]; rfl
    · rw [if_neg e, if_neg e]
      by_cases e2 : i + 1 = n
      · rw [show n - (i + 1) = 0 by omega]
        show _ = ((i + 1 : Nat) : Int)
        omega
      · rw [up_all (hin (i + 1) (by omega))]
        omega
  · cases i with
    | zero => rw [if_pos rfl]; rfl
    | succ i =>
      rw [if_neg (by omega), dnG, if_pos (hin i (by omega))]
      omega
  · simp [inn0] at h
    omega
set_option maxHeartbeats 4000000 in
theorem new_any (i m : Int) (n : Nat) (W : World) (h1 : (if i < 0 then 0 else i) = m) (h2 : (if 1048576 < m then 1048576 else m) = n) (hn : n ≤ 1048576) :
    Calls Try.prog 6 #[.int .i64 i] W fun e w' => ∃ g b, e = .returned (.pointer (some ⟨g, 0, none⟩)) ∧ W.heap.size ≤ g ∧ W.heap.size ≤ b ∧ Ch w' g b n (inn0 n) n ∧ Below W.heap.size W w' := by
  obtain ⟨arr, ha, hmk⟩ := run_makeL (n + 1) (by omega)
  have hL0 : LkAt (W.alloc (.cells arr 38)) W.heap.size n (fun _ => 0) (fun _ => 0) :=
    ⟨arr, heap_alloc_new W _, fun i hi => ha i (by omega)⟩
  clear ha
  have ec : ((n + 1 : Nat) : Int) = (n : Int) + 1 := by omega
  rw [ec] at hmk
  have b0 : Below W.heap.size W (W.alloc (.cells arr 38)) := (Below.refl _ _).alloc (Nat.le_refl _) _
  have b1 := b0.alloc b0.size (.cells #[.slice (some ⟨W.heap.size, 0, none⟩) (n + 1) (n + 1), .int .i64 (n : Nat)] 36)
  have hL1 := hL0.below ((Below.refl _ _).alloc (Nat.le_refl _) (.cells #[.slice (some ⟨W.heap.size, 0, none⟩) (n + 1) (n + 1), .int .i64 (n : Nat)] 36))
  have hO1 : ChAt ((W.alloc (.cells arr 38)).alloc (.cells #[.slice (some ⟨W.heap.size, 0, none⟩) (n + 1) (n + 1), .int .i64 (n : Nat)] 36)) (W.heap.size + 1) W.heap.size n (n : Nat) := by
    have := heap_alloc_new (W.alloc (.cells arr 38)) (.cells #[.slice (some ⟨W.heap.size, 0, none⟩) (n + 1) (n + 1), .int .i64 (n : Nat)] 36)
    rw [World.size_alloc] at this
    exact this
  clear b0 hL0
  go_enter Try.func6, Try.ntmps6
  go_upto_region 3 with fail
  obtain ⟨W1, hW1⟩ : ∃ W1, W1 = (W.alloc (.cells arr 38)).alloc (.cells #[.slice (some ⟨W.heap.size, 0, none⟩) (n + 1) (n + 1), .int .i64 (n : Nat)] 36) := ⟨_, rfl⟩
  rw [← hW1] at hL1 hO1 b1 ⊢
  clear hW1 hmk h1 h2
  obtain ⟨b, hb⟩ : ∃ b, b = W.heap.size := ⟨_, rfl⟩
  have HB : Hid (b = W.heap.size) := hb
  rw [← hb] at hL1 hO1 b1 ⊢
  clear hb
  have c0 := cell_of_block (show W1.heap[b + 1]? = _ from hO1) (i := 0)
  have HL1 : Hid (LkAt W1 b n (fun _ => 0) (fun _ => 0)) := hL1
  have HO1 : Hid (ChAt W1 (b + 1) b n (n : Nat)) := hO1
  clear hL1 hO1
  go_wp2_with fail
  clear c0
  go_loopw [19] (fun v wr => ∃ (k : Nat) (p q : Nat → Int), k ≤ n + 1 ∧ v = .int .i64 (k : Nat) ∧ LkAt wr b n p q ∧ (∀ j, j < k → p j = (j : Int) - 1 ∧ q j = (j : Int) + 1) ∧ ChAt wr (b + 1) b n (n : Nat) ∧ Below b W wr) (fun v _ => n + 1 - (intOf v).toNat)
  case atStart => exact ⟨0, _, _, Nat.zero_le _, rfl, HL1.out, fun j hj => absurd hj (by omega), HO1.out, b1⟩
  case round =>
    obtain ⟨k, p, q, hk, rfl, hL, hpq, hO, hB⟩ := hrel
    have HO : Hid (ChAt wr (b + 1) b n (n : Nat)) := hO
    have c0 := (cell_of_block (show wr.heap[b + 1]? = _ from hO) (i := 0)).trans rfl
    have HL : Hid (LkAt wr b n p q) := hL
    by_cases hkn : k = n + 1
    · have d0 : decide ((k : Int) < (n : Int) + 1) = false := decide_eq_false (by omega)
      have d1 : decide (k < n + 1) = false := decide_eq_false (by omega)
      have hf := hL.free
      have r0 := (hL.at' (i := 0) (by omega)).1
      have r1 := (hL.at' (i := n) (by omega)).2
      have in0 : 0 ≤ (n : Int) ∧ (n : Int) < (n : Int) + 1 := by omega
      have HK : Hid (k = n + 1) := hkn
      clear hkn hO hL
      go_upto_region 8 with fail
      clear d0 d1
      rw [Nat.zero_mul] at r0
      go_upto_region 9 with fail
      have L2 := HL.out.setP 0 (n : Nat)
      rw [Nat.zero_mul] at L2
      have O2 := ChAt.other HO.out (c := b) (o := 0) (.int .i64 (n : Nat)) (by omega)
      have B2 := hB.setCell (p := ⟨b, 0, none⟩) (Nat.le_refl _) (.int .i64 (n : Nat))
      obtain ⟨W2, hW2⟩ : ∃ W2, W2 = wr.setCell ⟨b, 0, none⟩ (.int .i64 (n : Nat)) := ⟨_, rfl⟩
      rw [← hW2] at L2 O2 B2 ⊢
      clear hW2 hf r0 r1 c0 HO HL hB
      have c0 := (cell_of_block (show W2.heap[b + 1]? = _ from O2) (i := 0)).trans rfl
      have r1 := (L2.at' (i := n) (by omega)).2
      have hf := L2.free
      go_wp2_with fail
      go_ret
      refine ⟨b + 1, b, rfl, by rw [← HB.out]; omega, by rw [← HB.out]; exact Nat.le_refl _, ⟨ChAt.other O2 _ (by omega), hn, _, _, L2.setQ n 0, ?_⟩, by rw [← HB.out]; exact B2.setCell (p := ⟨b, _, none⟩) (Nat.le_refl _) _⟩
      have h0 := lk_new n
      refine ⟨fun i hi h => ?_, fun i hi h => ?_, fun i hi h => ?_⟩
      · rw [← h0.nx i hi h]
        split
        · rfl
        · exact (hpq i (by have := HK.out; omega)).2
      · rw [← h0.pv i hi h]
        split
        · rfl
        · exact (hpq i (by have := HK.out; omega)).1
      · simp [inn0] at h
        omega
    · have d0 : decide ((k : Int) < (n : Int) + 1) = true := decide_eq_true (by omega)
      have d1 : decide (k < n + 1) = true := decide_eq_true (by omega)
      have hf := hL.free
      have r0 := (hL.at' (i := k) (by omega)).1
      have r1 := (hL.at' (i := k) (by omega)).2
      have in0 : 0 ≤ (k : Int) ∧ (k : Int) < (n : Int) + 1 := by omega
      have L2 := (hL.setP k ((k : Int) - 1)).setQ k ((k : Int) + 1)
      have O2 := ChAt.other (ChAt.other hO (c := b) (o := k * 2) (.int .i64 ((k : Int) - 1)) (by omega)) (c := b) (o := k * 2 + 1) (.int .i64 ((k : Int) + 1)) (by omega)
      have B2 := (hB.setCell (p := ⟨b, k * 2, none⟩) (Nat.le_refl _) (.int .i64 ((k : Int) - 1))).setCell (p := ⟨b, k * 2 + 1, none⟩) (Nat.le_refl _) (.int .i64 ((k : Int) + 1))
      have HL2 : Hid (LkAt ((wr.setCell ⟨b, k * 2, none⟩ (.int .i64 ((k : Int) - 1))).setCell ⟨b, k * 2 + 1, none⟩ (.int .i64 ((k : Int) + 1))) b n (fun j => if j = k then (k : Int) - 1 else p j) (fun j => if j = k then (k : Int) + 1 else q j)) := L2
      clear hO hL L2
      go_wp2_with fail
      go_roundw
      case rel => exact ⟨k + 1, _, _, by omega, by go_num, HL2.out, fun j hj => by
        by_cases e : j = k
        · rw [if_pos e, if_pos e, e]
          exact ⟨rfl, rfl⟩
        · rw [if_neg e, if_neg e]
          exact hpq j (by omega), O2, B2⟩
      case measure => simp [intOf]; omega
end Go.Proofs.Ytlmbkhpbfmkmjaa.CH
