/- tesseralaw11's own rows of keys and values: in memory, laid behind one another, looked through. -/
import Derived.Test.YtafhgigkhbcnjaaLuOpen
namespace Go.Proofs.Ytafhgigkhbcnjaa.LU.K
open Go.RowKit Go.Joins Go.Sort Go.Maps
set_option linter.unusedVariables false
set_option linter.unusedSimpArgs false
set_option maxRecDepth 100000
abbrev TR : TypeId := 42
abbrev TL : TypeId := 37
/-- A row's cells. -/
def enc1 (r : κ × Int) : List Value := [.int .i64 r.1.1, .int .i64 r.1.2, .int .i64 r.2]
def cellsR (l : List (κ × Int)) : List Value := l.flatMap enc1
theorem cellsR_cons (r : κ × Int) (l : List (κ × Int)) : cellsR (r :: l) = enc1 r ++ cellsR l := rfl
theorem cellsR_app (l m : List (κ × Int)) : cellsR (l ++ m) = cellsR l ++ cellsR m := by simp [cellsR]
theorem cellsR_length (l : List (κ × Int)) : (cellsR l).length = l.length * 3 := by
  induction l with
  | nil => rfl
  | cons a l ih => rw [cellsR_cons, List.length_append, ih]; simp [enc1]; omega
theorem cellsR_one (l : List (κ × Int)) : ∀ u ∈ cellsR l, u.oneCell' = true := by
  intro u hu
  unfold cellsR at hu
  obtain ⟨r, _, h⟩ := List.mem_flatMap.1 hu
  simp [enc1] at h
  rcases h with rfl | rfl | rfl <;> rfl
theorem cellsR_get {l : List (κ × Int)} {i : Nat} {r : κ × Int} (h : l[i]? = some r) : (cellsR l)[i * 3]? = some (.int .i64 r.1.1) ∧ (cellsR l)[i * 3 + 1]? = some (.int .i64 r.1.2) ∧ (cellsR l)[i * 3 + 2]? = some (.int .i64 r.2) := by
  induction l generalizing i with
  | nil => simp at h
  | cons y l ih =>
    rw [cellsR_cons]
    cases i with
    | zero =>
      simp at h
      subst h
      exact ⟨rfl, rfl, rfl⟩
    | succ i =>
      have := ih (i := i) (by simpa using h)
      rw [show (i + 1) * 3 = i * 3 + 3 by omega, show i * 3 + 3 + 1 = (i * 3 + 1) + 3 by omega, show i * 3 + 3 + 2 = (i * 3 + 2) + 3 by omega]
      simpa [enc1] using this
/-- A list of rows of one's own. -/
def Rw (w : World) (B : Nat) (v : Value) (l : List (κ × Int)) : Prop := w.ownsRow B TR 3 v l.length (cellsR l)
/-- A slice at a holds these rows. -/
def RSP (w : World) (a : Option Addr) (l : List (κ × Int)) : Prop := l = [] ∨ ∃ b off, a = some ⟨b, off, none⟩ ∧ ∀ j u, (cellsR l)[j]? = some u → w.cell? ⟨b, off + j, none⟩ = some u
theorem infoR : (Try.prog.info? TR).map (fun i => (i.zero, i.size, i.bytes)) = some (some (.agg #[.int .i64 0, .int .i64 0, .int .i64 0]), 3, 24) := by kernel_rfl
theorem undL : Try.prog.underlying TL = some (.slice TR) := by kernel_rfl
/-- All of a slice is laid behind a row of one's own. -/
theorem run_catR (W : World) (B : Nat) (v : Value) (L : List (κ × Int)) (a : Option Addr) (c m : Nat) (M : List (κ × Int)) (hm0 : m = M.length) (hown : Rw W B v L) (hi : RSP W a M) (hv : v.ownBlock ≠ none) (hb : B ≤ W.heap.size) (hl : L.length + M.length ≤ 1000000) :
    ∃ v' w', (Builtin.append_ #[TL, TL] TL #[v, .slice a m c]).run Try.prog W = .ok v' w' ∧ Rw w' B v' (L ++ M) ∧ W.grownBy w' v.ownBlock ∧ v'.ownBlock ≠ none := by
  subst hm0
  obtain ⟨i0, hi0, hz0, hz1, hz2⟩ := info_parts infoR
  cases a with
  | none =>
    have hM : M = [] := by
      rcases hi with h | ⟨b, off, h, _⟩
      · exact h
      · cases h
    subst hM
    rcases hown.2 with ⟨rfl, _⟩ | ⟨b, cap, cur, rfl, hbb, hh, hn, hm, hcs, htk⟩
    · exact absurd rfl hv
    · refine ⟨.slice (some ⟨b, 0, none⟩) L.length cap, W, ?_, by rw [List.append_nil]; exact hown, ⟨rfl, rfl, rfl, Nat.le_refl _, fun _ _ _ => rfl⟩, hv⟩
      have hcap : ¬ cap < L.length := by omega
      simp [Builtin.append_, run_underlying undL, sizeOf, typeInfo, hi0, Builtin.lenOf, Builtin.firstCells, loadCells, loadCellsFrom, hz1, storeCells]
      intro h
      exact absurd h hcap
  | some x =>
    have hcs : ∀ j u, (cellsR M)[j]? = some u → W.cell? (x.add j) = some u := by
      intro j u hu
      rcases hi with h | ⟨b, off, h, hc⟩
      · rw [h] at hu; simp [cellsR] at hu
      · cases h
        rw [cell_add]
        exact hc j u hu
    obtain ⟨v', w', h1, h2, h3, h4⟩ := run_append_own (P := Try.prog) W B TL TL TR i0 _ 3 24 undL hi0 hz0 hz1 hz2 rfl (by decide) v L.length (cellsR L) hown x M.length c (cellsR M) (cellsR_length M) hcs (cellsR_one M) (by unfold maxLen; omega) (by omega) hb
    have h5 : Rw w' B v' (L ++ M) := by
      unfold Rw
      rw [List.length_append, cellsR_app]
      exact h2
    refine ⟨v', w', h1, h5, h3, ?_⟩
    intro e
    rcases h2.2 with ⟨e2, _⟩ | ⟨b, cap, cur, e2, _⟩
    · have := (h4.1 e2).1
      rw [this] at hv
      exact hv rfl
    · rw [e2] at e; cases e
/-- Where a key stands; -1: nowhere. -/
def idxZ (l : List (κ × Int)) (k : κ) : Int := match l.findIdx? fun r => decide (r.1 = k) with
  | some i => (i : Nat)
  | none => -1
theorem idxZ_at {l : List (κ × Int)} {k : κ} {j : Nat} {r : κ × Int} (h : l[j]? = some r) (hr : r.1 = k) (hb : ∀ i, i < j → ∀ y, l[i]? = some y → y.1 ≠ k) : idxZ l k = j := by
  unfold idxZ
  have hj : j < l.length := (List.getElem?_eq_some_iff.1 h).1
  have : l.findIdx? (fun r => decide (r.1 = k)) = some j := by
    rw [List.findIdx?_eq_some_iff_getElem]
    refine ⟨hj, ?_, fun i hi => ?_⟩
    · have := (List.getElem?_eq_some_iff.1 h).2
      rw [this]
      simpa using hr
    · have := hb i hi _ (List.getElem?_eq_getElem (by omega))
      simpa using this
  rw [this]
theorem idxZ_no {l : List (κ × Int)} {k : κ} (hb : ∀ y ∈ l, y.1 ≠ k) : idxZ l k = -1 := by
  unfold idxZ
  have : l.findIdx? (fun r => decide (r.1 = k)) = none := by
    rw [List.findIdx?_eq_none_iff]
    intro y hy
    simpa using hb y hy
  rw [this]
set_option maxHeartbeats 1000000 in
theorem lfind_any (a : Option Addr) (cap : Nat) (l : List (κ × Int)) (k : κ) (W : World) (h : RSP W a l) (hlen : l.length ≤ 1000000) :
    Calls Try.prog 13 #[.slice a l.length cap, kv k] W fun e w' => e = .returned (.int .i64 (idxZ l k)) ∧ Below W.heap.size W w' := by
  obtain ⟨n, hn⟩ : ∃ n, n = l.length := ⟨_, rfl⟩
  have HN : Hid (n = l.length) := hn
  rw [← hn] at hlen ⊢
  clear hn
  obtain ⟨N, hN⟩ : ∃ N, N = W.heap.size := ⟨_, rfl⟩
  obtain ⟨W1, hW1⟩ : ∃ W1, W1 = W.alloc (.cells #[.int .i64 k.1, .int .i64 k.2] 36) := ⟨_, rfl⟩
  have hb0 : Below N W W1 := by rw [hW1, hN]; exact (Below.refl _ _).alloc (Nat.le_refl _) _
  have b0 : W1.heap[N]? = some (.cells #[.int .i64 k.1, .int .i64 k.2] 36 (0, 0)) := by rw [hW1, hN]; exact heap_alloc_new W _
  have hs1 : W1.heap.size = N + 1 := by rw [hW1, hN, World.size_alloc]
  have HK : Hid (W1.heap[N]? = some (.cells #[.int .i64 k.1, .int .i64 k.2] 36 (0, 0))) := b0
  have HS1 : Hid (W1.heap.size = N + 1) := hs1
  have HNW : Hid (N = W.heap.size) := hN
  unfold kv
  go_enter Try.func13, Try.ntmps13
  go_upto_region 1 with fail
  rw [← hW1, ← hN]
  clear hW1 hN b0 hs1
  go_wp2_with fail
  go_loopw [5] (fun i wr => ∃ j : Nat, j ≤ n ∧ i = .int .i64 j ∧ Below (N + 1) W1 wr ∧ ∀ i, i < j → ∀ y, l[i]? = some y → y.1 ≠ k) (fun i _ => n - (intOf i).toNat)
  case atStart => exact ⟨0, Nat.zero_le _, rfl, Below.refl _ _, fun i hi => absurd hi (Nat.not_lt_zero i)⟩
  case round =>
    obtain ⟨j, hj, rfl, hbr, hno⟩ := hrel
    have HNO : Hid (∀ i, i < j → ∀ y, l[i]? = some y → y.1 ≠ k) := hno
    have HBR : Hid (Below (N + 1) W1 wr) := hbr
    have HBW : Hid (Below N W wr) := hb0.trans (hbr.mono (by omega))
    have hkb := (hbr.block N (by omega)).trans HK.out
    have c0 := (cell_of_block hkb (i := 0)).trans rfl
    have c1 := (cell_of_block hkb (i := 1)).trans rfl
    clear hkb hno hbr
    by_cases hlt : j < n
    · have hkl : j < l.length := by rw [← HN.out]; exact hlt
      have hnil : l ≠ [] := fun e => by rw [e] at hkl; simp at hkl
      rcases h with h | ⟨ga, oa, rfl, h⟩
      · exact absurd h hnil
      obtain ⟨x, hx⟩ : ∃ x, l[j]? = some x := ⟨l[j], List.getElem?_eq_getElem hkl⟩
      obtain ⟨q0, q1, q2⟩ := cellsR_get hx
      have a0 := h _ _ q0
      have a1 := h _ _ q1
      have hga : ga < N := by rw [HNW.out]; exact World.block_lt_of_cell? W _ a0
      have a0 := (HBW.out.cell (p := ⟨ga, oa + j * 3, none⟩) hga).trans a0
      have a1 := (HBW.out.cell (p := ⟨ga, oa + (j * 3 + 1), none⟩) hga).trans a1
      rw [← Nat.add_assoc] at a1
      have HX : Hid (l[j]? = some x) := hx
      clear q0 q1 q2 h hnil hkl hx
      by_cases hxk : x.1 = k
      · have HE := fun d => equal_sp x.1.1 x.1.2 k.1 k.2 d
        have HF := eql_sp x.1 k true (by rw [hxk]; simp [spEq])
        have HG : ∀ d, (Op.equalIn 10000 36 (.agg #[.int .i64 x.1.1, .int .i64 x.1.2]) (.agg #[.int .i64 k.1, .int .i64 k.2])).run Try.prog d = .ok true d := fun d => (HE d).trans (by rw [hxk]; simp)
        have HXK : Hid (x.1 = k) := hxk
        clear HE hxk
        go_wp2_with fail
        go_quiet (fail)
        go_wp2_with fail
        go_ret
        exact ⟨by rw [idxZ_at HX.out HXK.out HNO.out]; rfl, by rw [← HNW.out]; exact below_drewN HBW.out nq⟩
      · have HE := fun d => equal_sp x.1.1 x.1.2 k.1 k.2 d
        have hne : (x.1.1 == k.1 && x.1.2 == k.2) = false := by
          rw [Bool.eq_false_iff]
          intro e
          simp at e
          exact hxk (Prod.ext e.1 e.2)
        have HF := eql_sp x.1 k false hne
        have HG : ∀ d, (Op.equalIn 10000 36 (.agg #[.int .i64 x.1.1, .int .i64 x.1.2]) (.agg #[.int .i64 k.1, .int .i64 k.2])).run Try.prog d = .ok false d := fun d => (HE d).trans (by rw [hne])
        have HXK : Hid (x.1 ≠ k) := hxk
        clear HE hxk hne
        go_wp2_with fail
        go_quiet (fail)
        go_wp2_with fail
        refine ⟨⟨j + 1, by omega, by go_num, below_drewN HBR.out nq, fun i hi y hy => ?_⟩, by simp only [intOf]; omega⟩
        by_cases e : i = j
        · rw [e, HX.out] at hy
          obtain rfl := Option.some.inj hy
          exact HXK.out
        · exact HNO.out i (by omega) y hy
    · obtain rfl : n = j := by omega
      go_wp2_with fail
      go_ret
      have e1 : idxZ l k = -1 := idxZ_no fun y hy => by
        obtain ⟨i, hi⟩ := List.getElem?_of_mem hy
        refine HNO.out i ?_ y hi
        have := (List.getElem?_eq_some_iff.1 hi).1
        rw [HN.out]; exact this
      exact ⟨by rw [e1]; rfl, by rw [← HNW.out]; exact HBW.out⟩
end Go.Proofs.Ytafhgigkhbcnjaa.LU.K
