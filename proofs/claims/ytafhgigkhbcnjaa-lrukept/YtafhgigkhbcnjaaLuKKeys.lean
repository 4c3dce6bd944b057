/- lru's Keys: its contract. -/
import Derived.Test.YtafhgigkhbcnjaaLuKDrop
import Derived.Test.YtafhgigkhbcnjaaAppRun
import Derived.Laws.MakeOwn
import Derived.Laws.CopyOwn
import Derived.LaidEqlPtr
namespace Go.Proofs.Ytafhgigkhbcnjaa.LU.K
open Go.RowKit Go.Joins Go.Sort Go.Maps
set_option linter.unusedVariables false
set_option linter.unusedSimpArgs false
set_option maxRecDepth 100000
theorem adj_get {p q : Nat → Nat} : ∀ {L : List Nat}, Adj p q L → ∀ {j a b : Nat}, L[j]? = some a → L[j + 1]? = some b → q a = b
  | [], _, j, a, b, h1, h2 => by simp at h1
  | [_], _, j, a, b, h1, h2 => by simp at h2
  | x :: y :: L, h, 0, a, b, h1, h2 => by
    simp at h1 h2
    subst h1; subst h2
    exact h.1.1
  | x :: y :: L, h, j + 1, a, b, h1, h2 => adj_get h.2 (by simpa using h1) (by simpa using h2)
/-- Keys' cells. -/
def cellsE (l : List κ) : List Value := l.flatMap fun k => [.int .i64 k.1, .int .i64 k.2]
theorem cellsE_cons (k : κ) (l : List κ) : cellsE (k :: l) = [.int .i64 k.1, .int .i64 k.2] ++ cellsE l := rfl
theorem cellsE_length (l : List κ) : (cellsE l).length = l.length * 2 := by
  induction l with
  | nil => rfl
  | cons a l ih =>
    rw [cellsE_cons, List.length_append, ih]
    simp
    omega
theorem cellsE_snoc (l : List κ) (k : κ) : cellsE (l ++ [k]) = cellsE l ++ [.int .i64 k.1, .int .i64 k.2] := by simp [cellsE]
/-- A row of keys of one's own that is full. -/
def OwnE (w : World) (g : Nat) (L : List Value) : Prop := w.heap[g]? = some (.cells L.toArray 36 (0, 0))
theorem info_parts {t : TypeId} {z : Value} {s b : Nat} (h : (Try.prog.info? t).map (fun i => (i.zero, i.size, i.bytes)) = some (some z, s, b)) : ∃ i, Try.prog.info? t = some i ∧ i.zero = some z ∧ i.size = s ∧ i.bytes = b := by
  cases hi : Try.prog.info? t with
  | none => rw [hi] at h; simp at h
  | some i =>
    rw [hi] at h
    simp at h
    exact ⟨i, rfl, h.1, h.2.1, h.2.2⟩
theorem infoE : (Try.prog.info? 36).map (fun i => (i.zero, i.size, i.bytes)) = some (some (.agg #[.int .i64 0, .int .i64 0]), 2, 16) := by kernel_rfl
theorem run_makeE (n : Nat) (hn : n ≤ 1000000) : ∃ R : List Value, R.length = n * 2 ∧ ∀ u : World, (Instr.makeSlice 45 (.int .i64 0) (.int .i64 (n : Nat))).run Try.prog u = .ok (.slice (some ⟨u.heap.size, 0, none⟩) 0 n) (u.alloc (.cells R.toArray 36)) := by
  obtain ⟨i0, hi, hz0, hz1, hz2⟩ := info_parts infoE
  refine ⟨(madeCells (Value.cells (.agg #[.int .i64 0, .int .i64 0])) (n * 2)).toList, by rw [Array.length_toList, size_madeCells], fun u => ?_⟩
  have h := run_make (P := Try.prog) u 45 36 i0 _ Try.underlying45 hi hz0 .i64 .i64 0 (n : Int) (Int.le_refl _) (by omega) (by rw [hz2]; omega) (by omega)
  rw [hz1] at h
  have e : ((n : Int)).toNat = n := by omega
  rw [e] at h
  simpa using h
/-- One key more, where there is room. -/
theorem push_E (W : World) (g : Nat) (l : List κ) (R : List Value) (k : κ) (j n : Nat) (hj : l.length = j) (hjn : j < n) (hR : R.length = (n - j) * 2) (h : Nat) (hO : OwnE W g (cellsE l ++ R)) (hh : W.heap[h]? = some (.cells #[.int .i64 k.1, .int .i64 k.2] 36 (0, 0))) :
    ∃ W' R', (Builtin.append_ #[45, 45] 45 #[.slice (some ⟨g, 0, none⟩) j n, .slice (some ⟨h, 0, none⟩) 1 1]).run Try.prog W = .ok (.slice (some ⟨g, 0, none⟩) (j + 1) n) W' ∧ R'.length = (n - (j + 1)) * 2 ∧ OwnE W' g (cellsE (l ++ [k]) ++ R') ∧ W.grownBy W' (some g) := by
  obtain ⟨i0, hi, hz0, hz1, hz2⟩ := info_parts infoE
  have hl : (cellsE l).length = j * 2 := by rw [cellsE_length, hj]
  have hr := run_append_room (P := Try.prog) W 45 45 36 i0 Try.underlying45 hi g j n _ hO ⟨h, 0, none⟩ 1 1 [.int .i64 k.1, .int .i64 k.2] (by rw [hz1]; rfl)
    (fun i u hu => by
      rw [Go.WideShapes.add_plain, cell_of_block hh, Nat.zero_add]
      simpa using hu) (fun u hu => by
      simp at hu
      rcases hu with rfl | rfl <;> rfl) hjn (by
      rw [hz1]
      simp [hl, hR]
      have : (n - j) * 2 = (n - (j + 1)) * 2 + 2 := by
        rw [show n - j = n - (j + 1) + 1 by omega, Nat.add_mul]
      omega)
  rw [hz1] at hr
  have ht : ((cellsE l ++ R).toArray.toList.take (j * 2)) = cellsE l := by rw [← hl]; simp
  rw [ht] at hr
  refine ⟨_, (cellsE l ++ R).toArray.toList.drop (j * 2 + ([.int .i64 k.1, .int .i64 k.2] : List Value).length), hr, ?_, ?_, rfl, rfl, rfl, by simp, fun i _ hi => setRow_other W g i _ (fun e => hi (by rw [e]))⟩
  · simp [hl, hR]
    rw [show n - j = n - (j + 1) + 1 by omega, Nat.add_mul]
    omega
  · unfold OwnE
    rw [setRow_heap W g _ _ _ _ hO, cellsE_snoc]
theorem undPE : Try.prog.underlying 70 = some (.pointer 72) := by kernel_rfl
theorem sizeE : (Try.prog.info? 72).map (fun i => i.size) = some 5 := by kernel_rfl
theorem sizeE' : ∃ i, Try.prog.info? 72 = some i ∧ i.size ≠ 0 := by
  have h := sizeE
  cases hi : Try.prog.info? 72 with
  | none => rw [hi] at h; simp at h
  | some i =>
    rw [hi] at h
    simp at h
    exact ⟨i, rfl, by omega⟩
/-- Two pointers to entries. -/
theorem neq_same (w : World) (a : Nat) : (binOp .neq 70 (.pointer (some ⟨a, 0, none⟩)) (.pointer (some ⟨a, 0, none⟩))).run Try.prog w = .ok (.bool false) w := by
  obtain ⟨i, hi, _⟩ := sizeE'
  have h : ∀ d : Nat, (Op.equalIn (d + 1) 70 (.pointer (some ⟨a, 0, none⟩)) (.pointer (some ⟨a, 0, none⟩))).run Try.prog w = .ok true w := fun d => by
    simp [Op.equalIn, run_underlying undPE, sizeOf, typeInfo, hi, run_sameAddr_same]
  simp only [binOp]
  simp [Op.equal, Op.maxDepth, h 9999]
theorem neq_other {w : World} {a b : Nat} {ca cb : Array Value} {ta tb : TypeId} (hne : a ≠ b) (ha : w.heap[a]? = some (.cells ca ta (0, 0))) (hb : w.heap[b]? = some (.cells cb tb (0, 0))) : (binOp .neq 70 (.pointer (some ⟨a, 0, none⟩)) (.pointer (some ⟨b, 0, none⟩))).run Try.prog w = .ok (.bool true) w := by
  obtain ⟨i, hi, hsz⟩ := sizeE'
  have h : ∀ d : Nat, (Op.equalIn (d + 1) 70 (.pointer (some ⟨a, 0, none⟩)) (.pointer (some ⟨b, 0, none⟩))).run Try.prog w = .ok false w := fun d => by
    simp [Op.equalIn, run_underlying undPE, sizeOf, typeInfo, hi, hsz, run_sameAddr_other w (a := ⟨a, 0, none⟩) (b := ⟨b, 0, none⟩) (fun e2 => hne (congrArg Addr.block e2)) ha hb]
  simp only [binOp]
  simp [Op.equal, Op.maxDepth, h 9999]
def slen : Value → Nat
  | .slice _ n _ => n
  | _ => 0
set_option maxHeartbeats 2000000 in
theorem keys_any (x c : Nat) (F : Nat → Prop) (l : List (κ × Int)) (W : World) (h : Lru W x c F l) :
    Calls Try.prog 16 #[.pointer (some ⟨x, 0, none⟩)] W fun ee w' => ∃ g, ee = .returned (.slice (some ⟨g, 0, none⟩) l.length l.length) ∧ W.heap.size ≤ g ∧ OwnE w' g (cellsE (l.map (·.1))) ∧ Below W.heap.size W w' := by
  obtain ⟨mb, kn, bl, key, val, f, h1, rfl, g1, g2, g3, g4, g5, g6, g7⟩ := h
  obtain ⟨n, hn⟩ : ∃ n, n = bl.length := ⟨_, rfl⟩
  have hn1 : n ≤ 4097 := by rw [hn]; exact h1.le
  rw [rows_length, ← hn]
  have hmap : (rowsOf key val bl).map (·.1) = bl.map key := by unfold rowsOf; rw [List.map_map]; rfl
  rw [hmap]
  have HL := h1.map.len
  rw [← hn] at HL
  have HNb : Hid (n = bl.length) := hn
  obtain ⟨R0, hR0, HM⟩ := run_makeE n (by omega)
  have HC : Hid (Ca W x c mb kn bl key val f) := h1
  have O := h1.own
  unfold CaAt at O
  have c1 := (cell_of_block O (i := 1)).trans rfl
  have c2 := (cell_of_block O (i := 2)).trans rfl
  obtain ⟨p, q, L1, R1⟩ := h1.es
  have HE : Hid (Es W (kn :: bl) key val p q) := L1
  have HR : Hid (Rg p q kn bl) := R1
  have c3 := L1.behind List.mem_cons_self
  have HR0 : Hid (R0.length = n * 2) := hR0
  have hx0 := h1.own.lt
  clear O L1 R1 hmap g1 g2 g3 g4 g5 g6 g7 h1 hn hR0
  obtain ⟨nd, hnd⟩ : ∃ nd, nd = bl ++ [kn] := ⟨_, rfl⟩
  have HND : Hid (nd = bl ++ [kn]) := hnd
  have hndl : Hid (nd.length = n + 1) := by rw [hnd, List.length_append, ← HNb.out]; rfl
  clear hnd
  have h0 : nd[0]? = some (q kn) := by
    obtain ⟨b, hb⟩ : ∃ b, nd[0]? = some b := by
      rw [List.getElem?_eq_getElem (by rw [hndl.out]; omega)]; exact ⟨_, rfl⟩
    have := adj_get HR.out (j := 0) (a := kn) (b := b) rfl (by rw [← HND.out]; simpa using hb)
    rw [hb, this]
  go_enter Try.func16, Try.ntmps16
  go_upto_region 2 with fail
  have hw : OwnE (W.alloc (.cells R0.toArray 36)) W.heap.size (cellsE [] ++ R0) := heap_alloc_new W _
  have hb0 := (Below.refl W.heap.size W).alloc (Nat.le_refl _) (.cells R0.toArray 36)
  obtain ⟨g, hg⟩ : ∃ g, g = W.heap.size := ⟨_, rfl⟩
  obtain ⟨W0, hW0⟩ : ∃ W0, W0 = W.alloc (.cells R0.toArray 36) := ⟨_, rfl⟩
  rw [← hW0] at hw hb0 ⊢
  rw [← hg] at hw ⊢
  have HG : Hid (g = W.heap.size) := hg
  have c2 : W0.cell? ⟨x, 2, none⟩ = some (.pointer (some ⟨kn, 0, none⟩)) := (hb0.cell (p := ⟨x, 2, none⟩) hx0).trans c2
  have c3 : W0.cell? ⟨kn, 4, none⟩ = some (.pointer (some ⟨q kn, 0, none⟩)) := (hb0.cell (p := ⟨kn, 4, none⟩) (HE.out.lt List.mem_cons_self)).trans c3
  clear hW0 hg HM HL c1
  have hRR : R0.length = (n - 0) * 2 := HR0.out
  go_wp2_with fail
  go_loopw [3, 4] (fun v3 v4 wr => ∃ (j e : Nat) (R : List Value), j ≤ n ∧ v3 = .slice (some ⟨g, 0, none⟩) j n ∧ v4 = .pointer (some ⟨e, 0, none⟩) ∧ nd[j]? = some e ∧ R.length = (n - j) * 2 ∧ OwnE wr g (cellsE ((bl.map key).take j) ++ R) ∧ Below g W wr) (fun v3 _ _ => n - slen v3)
  case atStart => exact ⟨0, q kn, R0, Nat.zero_le _, rfl, rfl, h0, hRR, by rw [List.take_zero]; exact hw, by rw [HG.out]; exact hb0⟩
  case round =>
    obtain ⟨j, e, R, hj, rfl, rfl, hnj, hRl, hO, hB⟩ := hrel
    obtain ⟨B, hBq⟩ : ∃ B, B = wr.heap.size := ⟨_, rfl⟩
    have hBx : Hid (∀ i, i < W.heap.size → wr.heap[i]? = W.heap[i]?) := fun i hi => hB.block i (by rw [HG.out]; exact hi)
    have HBw : Hid (Below g W wr) := hB
    have HO : Hid (OwnE wr g (cellsE ((bl.map key).take j) ++ R)) := hO
    have HRl : Hid (R.length = (n - j) * 2) := hRl
    have c2 : wr.cell? ⟨x, 2, none⟩ = some (.pointer (some ⟨kn, 0, none⟩)) := by
      have O := (hBx.out x (HC.out.own.lt)).trans HC.out.own
      exact (cell_of_block O (i := 2)).trans rfl
    have HEr : Hid (Es wr (kn :: bl) key val p q) := HE.out.kept fun i hi => hBx.out i (HE.out.lt hi)
    by_cases hjn : j < n
    · have hjb : j < bl.length := by rw [← HNb.out]; exact hjn
      have hej : bl[j]? = some e := by
        rw [HND.out, List.getElem?_append_left hjb] at hnj
        exact hnj
      have heb : e ∈ bl := List.mem_of_getElem? hej
      have hne : e ≠ kn := fun e2 => (List.nodup_cons.1 HC.out.nd).1 (e2 ▸ heb)
      have hne1 := neq_other hne (HEr.out e (List.mem_cons_of_mem kn heb)) (HEr.out kn List.mem_cons_self)
      have k1 := HEr.out.keyc (List.mem_cons_of_mem kn heb)
      have k5 := HEr.out.behind (List.mem_cons_of_mem kn heb)
      have hq : nd[j + 1]? = some (q e) := by
        obtain ⟨b, hb⟩ : ∃ b, nd[j + 1]? = some b := by
          rw [List.getElem?_eq_getElem (by rw [hndl.out]; omega)]; exact ⟨_, rfl⟩
        have := adj_get HR.out (j := j + 1) (a := e) (b := b) (by rw [← HND.out]; simpa using hnj) (by rw [← HND.out]; simpa using hb)
        rw [hb, this]
      have HH : (wr.alloc (.cells #[.int .i64 (key e).1, .int .i64 (key e).2] 36 (0, 0))).heap[wr.heap.size]? = some (.cells #[.int .i64 (key e).1, .int .i64 (key e).2] 36 (0, 0)) := heap_alloc_new wr _
      have hgw : g < wr.heap.size := (Array.getElem?_eq_some_iff.1 HO.out).1
      obtain ⟨W', R', hrun, hR', hO', hG'⟩ := push_E (wr.alloc (.cells #[.int .i64 (key e).1, .int .i64 (key e).2] 36 (0, 0))) g ((bl.map key).take j) R (key e) j n (by rw [List.length_take, List.length_map, ← HNb.out]; omega) hjn HRl.out wr.heap.size ((Below.heap_alloc wr _ g hgw).trans HO.out) HH
      have hbw : ∀ i, i < wr.heap.size → i ≠ g → W'.heap[i]? = wr.heap[i]? := fun i hi hig => (hG'.block i (by simp; omega) (fun e => hig (Option.some.inj e))).trans (Below.heap_alloc wr _ i hi)
      have hgs : g ≤ wr.heap.size := Nat.le_of_lt hgw
      have hB' : Below g W W' := (HBw.out.alloc hgs (.cells #[.int .i64 (key e).1, .int .i64 (key e).2] 36 (0, 0))).grown hG' (by rw [World.size_alloc]; omega) (fun k hk => by cases hk; omega)
      have HEW : Hid (Es W' (kn :: bl) key val p q) := HEr.out.kept fun i hi => hbw i (HEr.out.lt hi) (fun e2 => by have := HE.out.lt hi; rw [e2, HG.out] at this; omega)
      have k6 := HEW.out.behind (List.mem_cons_of_mem kn heb)
      have hkey : (bl.map key)[j]? = some (key e) := by rw [List.getElem?_map, hej]; rfl
      have HO' : Hid (OwnE W' g (cellsE ((bl.map key).take (j + 1)) ++ R')) := by
        rw [List.take_add_one, hkey]
        exact hO'
      have HB' : Hid (Below g W W') := hB'
      have HR' : Hid (R'.length = (n - (j + 1)) * 2) := hR'
      have HQ : Hid (nd[j + 1]? = some (q e)) := hq
      obtain ⟨k1, k2⟩ := k1
      obtain ⟨qe, hqe⟩ : ∃ qe, qe = q e := ⟨_, rfl⟩
      have HQE : Hid (qe = q e) := hqe
      rw [← hqe] at k5 k6
      clear hqe hq hR' hB' hO' hkey hbw hG' HH heb hej hjb hnj hO hB hRl k5 hne h0
      go_wp2_with (first | (at_builtin; refine wpList_append_run rfl _ _ 45 45 rfl _ _ rfl rfl _ _ hrun ?_) | fail)
      go_roundw
      case rel => exact ⟨j + 1, qe, R', by omega, rfl, rfl, by rw [HQE.out]; exact HQ.out, HR'.out, HO'.out, HB'.out⟩
      case measure => simp only [slen]; omega
    · obtain rfl : n = j := by omega
      have he : e = kn := by
        rw [HND.out, List.getElem?_append_right (by rw [← HNb.out]; omega), ← HNb.out] at hnj
        simp at hnj
        exact hnj.symm
      subst he
      have hne1 := neq_same wr e
      clear hjn hnj
      go_wp2_with fail
      go_ret
      refine ⟨g, rfl, by rw [HG.out]; omega, ?_, by rw [← HG.out]; exact HBw.out⟩
      have h1 := HO.out
      have h2 : R = [] := List.eq_nil_of_length_eq_zero (by rw [HRl.out]; simp)
      rw [h2, List.append_nil, List.take_of_length_le (by rw [List.length_map, ← HNb.out]; omega)] at h1
      exact h1
end Go.Proofs.Ytafhgigkhbcnjaa.LU.K
