import Derived.Test.YtjbdhakogbolkaaDoorJ18
import Derived.Laws.CopyOwn
import Derived.Lib.SmallJoins
import Derived.Deep.DeepMust
import Derived.Test.YtjbdhakogbolkaaDoorJ9
import Derived.Test.YtjbdhakogbolkaaDoorJ19
section
/- tesserabook.Roomy, Intact of ints: their contracts. -/
namespace Go.Proofs.YtjbdhakogbolkaaDoor
open Go.RowKit Go.Joins Go.Sort
set_option linter.unusedVariables false
set_option linter.unusedSimpArgs false
def cellsN (l : List Int) : List Value := l.map fun x => .int .i64 x
theorem cellsN_length (l : List Int) : (cellsN l).length = l.length := by simp [cellsN]
theorem cellsN_get (l : List Int) (i : Nat) (x : Int) (h : l[i]? = some x) : (cellsN l)[i]? = some (.int .i64 x) := by unfold cellsN; rw [List.getElem?_map, h]; rfl
theorem cellsN_one (l : List Int) : ∀ v ∈ cellsN l, v.oneCell' = true := by
  intro v hv
  obtain ⟨x, _, rfl⟩ := List.mem_map.1 hv
  rfl
theorem cellsN_set (l : List Int) (i : Nat) (x : Int) : (cellsN l).set i (.int .i64 x) = cellsN (l.set i x) := by unfold cellsN; rw [List.map_set]
/-- A block of ints. -/
def OwnB (w : World) (g : Nat) (L : List Value) : Prop := w.heap[g]? = some (.cells L.toArray 3 (0, 0))
theorem OwnB.lt {w : World} {g : Nat} {L : List Value} (h : OwnB w g L) : g < w.heap.size := (Array.getElem?_eq_some_iff.1 h).1
theorem OwnB.cell {w : World} {g : Nat} {L : List Value} (h : OwnB w g L) (j : Nat) : w.cell? ⟨g, j, none⟩ = L[j]? := by
  rw [cell_of_block h]; simp
theorem OwnB.free {w : World} {g : Nat} {L : List Value} (h : OwnB w g L) (j : Nat) : w.frozen? ⟨g, j, none⟩ = false := unfrozen_of_block h j
theorem OwnB.below {w w' : World} {g : Nat} {L : List Value} (h : OwnB w g L) (hb : Below w.heap.size w w') : OwnB w' g L := (hb.block g h.lt).trans h
theorem OwnB.set {w : World} {g : Nat} {L : List Value} (h : OwnB w g L) (j : Nat) (v : Value) : OwnB (w.setCell ⟨g, j, none⟩ v) g (L.set j v) := by
  have := block_setCell h (i := j) v
  unfold OwnB; rw [this]; simp
theorem OwnB.ins {w : World} {g : Nat} {l r : List Int} (h : OwnB w g (cellsN (l ++ r))) : CH.INS w (some ⟨g, 0, none⟩) l := by
  refine .inr ⟨g, 0, rfl, fun i x hx => ?_⟩
  rw [Nat.zero_add, h.cell]
  exact cellsN_get _ _ _ (by rw [List.getElem?_append_left (List.getElem?_eq_some_iff.1 hx).1]; exact hx)
def fillN (l : List Int) (m : Int) (k : Nat) : List Int := l ++ (List.replicate k m ++ List.replicate (80 - k) 0)
theorem fillN_set (l : List Int) (m : Int) (k : Nat) (h : k < 80) : (fillN l m k).set (l.length + k) m = fillN l m (k + 1) := by
  unfold fillN
  rw [List.set_append_right _ _ (by omega), Nat.add_sub_cancel_left, List.set_append_right _ _ (by simp)]
  simp only [List.length_replicate, Nat.sub_self]
  rw [show 80 - k = (80 - (k + 1)) + 1 from by omega, List.replicate_succ, List.set_cons_zero, List.replicate_succ', List.append_assoc]
  rfl
theorem fillN_length (l : List Int) (m : Int) (k : Nat) (h : k ≤ 80) : (fillN l m k).length = l.length + 80 := by
  simp [fillN]; omega
theorem fillN_get (l : List Int) (m : Int) (n k : Nat) (h : k < n) : (fillN l m n)[l.length + k]? = some m := by
  unfold fillN
  rw [List.getElem?_append_right (by omega), Nat.add_sub_cancel_left, List.getElem?_append_left (by simpa using h)]
  simp [h]
theorem fillN_start (l : List Int) (m : Int) : fillN l 0 0 = fillN l m 0 := by simp [fillN]
theorem sizeN : (Tryd.prog.info? 3).map (·.size) = some 1 := by kernel_rfl
theorem copy_runN (W : World) (g : Nat) (a : Option Addr) (cap : Nat) (l : List Int) (hO : OwnB W g (cellsN (List.replicate (l.length + 80) 0))) (h : CH.INS W a l) :
    ∃ W1, (Builtin.copy_ #[34, 34] 3 #[.slice (some ⟨g, 0, none⟩) (l.length + 80) (l.length + 80), .slice a l.length cap]).run Tryd.prog W = .ok (.int .i64 (l.length : Int)) W1 ∧
      OwnB W1 g (cellsN (fillN l 0 0)) ∧ ∀ B w0, Below B w0 W → B ≤ g → Below B w0 W1 := by
  have hspl : (cellsN (List.replicate (l.length + 80) 0)).take 0 ++ cellsN l ++ (cellsN (List.replicate (l.length + 80) 0)).drop (0 + (cellsN l).length) = cellsN (fillN l 0 0) := by
    unfold fillN cellsN
    simp
  rcases h with rfl | ⟨b, off, rfl, hc⟩
  · refine ⟨W, ?_, by simpa [fillN, cellsN] using hO, fun _ _ h _ => h⟩
    exact run_copy_none (P := Tryd.prog) W 34 34 3 3 _ _ _ _ _ _ Tryd.underlying34 sizeN (by simp)
  · have hr := run_copy_row (P := Tryd.prog) W 34 34 3 3 g 0 (l.length + 80) (l.length + 80) ⟨b, off, none⟩ l.length cap (cellsN (List.replicate (l.length + 80) 0)).toArray 3 (cellsN l) Tryd.underlying34 sizeN hO (by rw [cellsN_length]; exact (Nat.min_eq_left (by omega)).symm) (fun j v hj => by
        have hj' : j < l.length := by
          have := (List.getElem?_eq_some_iff.1 hj).1
          rw [cellsN_length] at this
          exact this
        rw [cellsN_get l j _ (List.getElem?_eq_getElem hj')] at hj
        rw [Go.WideShapes.add_plain, hc j _ (List.getElem?_eq_getElem hj')]; exact hj) (by rw [cellsN_length]; simp [cellsN]) (cellsN_one l)
    refine ⟨_, by rw [cellsN_length] at hr; exact hr, ?_, fun B w0 hb hg => below_setRow hb hg _⟩
    have := setRow_heap W g (cellsN (List.replicate (l.length + 80) 0)).toArray ((cellsN (List.replicate (l.length + 80) 0)).take 0 ++ cellsN l ++ (cellsN (List.replicate (l.length + 80) 0)).drop (0 + (cellsN l).length)).toArray 3 (0, 0) hO
    unfold OwnB
    rw [← hspl, ← this]
    simp [cellsN_length]
set_option maxHeartbeats 800000 in
theorem roomyN_any (a : Option Addr) (cap : Nat) (l : List Int) (m : Int) (w : World) (hlen : l.length ≤ 17592186044416) (h : CH.INS w a l) :
    Calls Tryd.prog 20 #[.slice a l.length cap, .int .i64 m] w fun e w' =>
      e = .returned (.slice (some ⟨w.heap.size, 0, none⟩) (l.length + 80) (l.length + 80)) ∧ Below w.heap.size w w' ∧ OwnB w' w.heap.size (cellsN (fillN l m 80)) ∧ w.heap.size < w'.heap.size := by
  obtain ⟨i0, hi, hz0, hz1, hz2⟩ := HQ.info_parts infoN
  have hmk : ∀ u : World, (Instr.makeSlice 34 (.int .i64 ((l.length : Int) + 80)) (.int .i64 ((l.length : Int) + 80))).run Tryd.prog u =
      .ok (.slice (some ⟨u.heap.size, 0, none⟩) (l.length + 80) (l.length + 80)) (u.alloc (.cells (cellsN (List.replicate (l.length + 80) 0)).toArray 3)) := fun u => by
    have h := run_make (P := Tryd.prog) u 34 3 i0 (.int .i64 0) Tryd.underlying34 hi hz0 .i64 .i64 ((l.length : Int) + 80) ((l.length : Int) + 80) (by omega) (Int.le_refl _) (by rw [hz2]; omega) (by omega)
    have e : ((l.length : Int) + 80).toNat = l.length + 80 := by omega
    rw [e] at h
    have e2 : (madeCells #[Value.int .i64 0] (l.length + 80)) = (cellsN (List.replicate (l.length + 80) 0)).toArray := by
      rw [show cellsN (List.replicate (l.length + 80) 0) = List.replicate (l.length + 80) (Value.int .i64 0) by unfold cellsN; simp]
      rw [← toList_madeCells_one]
    rw [← e2]
    simpa [hz1, Value.cells] using h
  obtain ⟨wa, hwa⟩ : ∃ wa, wa = w.alloc (.cells (cellsN (List.replicate (l.length + 80) 0)).toArray 3) := ⟨_, rfl⟩
  have hbA : Below w.heap.size w wa := by rw [hwa]; exact (Below.refl w.heap.size w).alloc (Nat.le_refl _) _
  have hO : OwnB wa w.heap.size (cellsN (List.replicate (l.length + 80) 0)) := by rw [hwa]; exact heap_alloc_new w _
  obtain ⟨w1, hcp, ho1, hb1⟩ := copy_runN wa w.heap.size a cap l hO (INS.below' h hbA)
  have hb1 := hb1 _ _ hbA (Nat.le_refl _)
  rw [fillN_start l m] at ho1
  rw [hwa] at hcp
  clear hO hbA h hwa
  obtain ⟨n, hnn⟩ : ∃ n, n = l.length := ⟨_, rfl⟩
  have HN : Hid (n = l.length) := hnn
  obtain ⟨g, hg⟩ : ∃ g, g = w.heap.size := ⟨_, rfl⟩
  have HG : Hid (g = w.heap.size) := hg
  rw [← hnn] at hmk hcp hlen ⊢
  clear hnn
  go_enter Tryd.func20, Tryd.ntmps20
  go_wp2_with fail
  rw [← hg] at ho1 hb1 ⊢
  clear hmk hcp hg
  go_loopw [6] (fun i wr => ∃ k : Nat, k ≤ 80 ∧ i = .int .i64 ((n : Int) + k) ∧ OwnB wr g (cellsN (fillN l m k)) ∧ Below g w wr) (fun i _ => 80 + n - (intOf i).toNat)
  case atStart => exact ⟨0, Nat.zero_le _, by simp, ho1, hb1⟩
  case round =>
    obtain ⟨k, hk, rfl, hown, hbr⟩ := hrel
    have HO : Hid (OwnB wr g (cellsN (fillN l m k))) := hown
    by_cases hlt : k < 80
    · obtain ⟨u, hu⟩ : ∃ u, (fillN l m k)[n + k]? = some u := ⟨_, List.getElem?_eq_getElem (by rw [fillN_length _ _ _ (by omega), ← HN.out]; omega)⟩
      have hcell : wr.cell? ⟨g, n + k, none⟩ = some (.int .i64 u) := by rw [hown.cell]; exact cellsN_get _ _ _ hu
      have hfree := hown.free (n + k)
      have d : decide ((n : Int) + (k : Int) < (n : Int) + 80) = true := decide_eq_true (by omega)
      have hidx : 0 ≤ (n : Int) + (k : Int) ∧ (n : Int) + (k : Int) < (n : Int) + 80 := by omega
      have htn : ((n : Int) + (k : Int)).toNat = n + k := by omega
      clear hown hu
      go_wp2_with fail
      refine ⟨⟨k + 1, by omega, ?_, ?_, hbr.setCell (Nat.le_refl _) _⟩, by simp only [intOf]; omega⟩
      · simp; omega
      · have := HO.out.set (n + k) (.int .i64 m)
        rw [cellsN_set, HN.out, fillN_set l m k hlt, ← HN.out] at this
        exact this
    · have hk80 : k = 80 := by omega
      subst hk80
      have d : decide ((n : Int) + ((80 : Nat) : Int) < (n : Int) + 80) = false := decide_eq_false (by omega)
      clear hown
      go_wp2_with fail
      go_ret
      rw [← HG.out]
      exact ⟨rfl, hbr, HO.out, HO.out.lt⟩
end Go.Proofs.YtjbdhakogbolkaaDoor
end
section
/- tesseraref5.Merge: its contract. -/
namespace Go.Proofs.YtjbdhakogbolkaaDoor
open Go.RowKit Go.Sort Go.Joins
set_option linter.unusedVariables false
theorem mergeM_of {ms : List Mg} {l r : Int} {k : Nat} {x : Mg} (hx : ms[k]? = some x) (hp : x.l = l ∧ x.r = r) (hb : ∀ (j : Nat) (y : Mg), j < k → ms[j]? = some y → pairB y l r = false) : mergeM ms l r = some (k, x.i) := by
  unfold mergeM
  rw [rankM_some hx (by unfold pairB; simp [hp.1, hp.2]) hb]
  simp [hx]
theorem mergeM_nil {ms : List Mg} {l r : Int} (hb : ∀ (j : Nat) (y : Mg), ms[j]? = some y → pairB y l r = false) : mergeM ms l r = none := by
  unfold mergeM
  rw [rankM_nil hb]
  rfl
set_option maxRecDepth 100000 in
set_option maxHeartbeats 2000000 in
theorem refMerge_any (aw am a b c : Option Addr) (nw cw cm na ca nb cb nc cc : Nat) (ms : List Mg) (l r : Int) (w : World) (hl : ms.length ≤ 9223372036854775807) (hM : MSP w am ms) :
    Calls Tryd.prog 59 #[.agg #[.slice aw nw cw, .slice am ms.length cm, .slice a na ca, .slice b nb cb, .slice c nc cc], .int .i64 l, .int .i64 r] w fun e w' => e = .returned (mrV (mergeM ms l r)) ∧ Below w.heap.size w w' := by
  have hD := DBox.new w (.slice aw nw cw) (.slice am ms.length cm) (.slice a na ca) (.slice b nb cb) (.slice c nc cc)
  have hb := box_below w (.cells #[.slice aw nw cw, .slice am ms.length cm, .slice a na ca, .slice b nb cb, .slice c nc cc] 30)
  have hM' := hM.below hb
  clear hM
  obtain ⟨R, hR⟩ : ∃ R, R = mergeM ms l r := ⟨_, rfl⟩
  have HR : Hid (R = mergeM ms l r) := hR
  rw [← hR]
  clear hR
  obtain ⟨Y, hY⟩ : ∃ Y, Y = w.alloc (.cells #[.slice aw nw cw, .slice am ms.length cm, .slice a na ca, .slice b nb cb, .slice c nc cc] 30) := ⟨_, rfl⟩
  go_enter Tryd.func59, Tryd.ntmps59
  go_wp2_with fail
  rw [← hY] at hb hD hM' ⊢
  clear hY
  obtain ⟨z, hz⟩ : ∃ z, z = w.heap.size := ⟨_, rfl⟩
  have HZ : Hid (z = w.heap.size) := hz
  rw [← hz] at hD hb ⊢
  clear hz
  go_loopw [9] (fun i wr => ∃ k : Nat, k ≤ ms.length ∧ i = .int .i64 k ∧ (∀ (j : Nat) (y : Mg), j < k → ms[j]? = some y → pairB y l r = false) ∧ Below Y.heap.size Y wr) (fun i _ => ms.length - (intOf i).toNat)
  case atStart => exact ⟨0, Nat.zero_le _, rfl, fun j y h => absurd h (Nat.not_lt_zero _), Below.refl _ _⟩
  case round =>
    obtain ⟨k, hk, rfl, hno, hbr⟩ := hrel
    have x1 := (hD.below hbr hD.lt).c1
    have HNO : Hid (∀ (j : Nat) (y : Mg), j < k → ms[j]? = some y → pairB y l r = false) := hno
    have hB2 := hb.trans (hbr.mono (by rw [HZ.out]; exact hb.size))
    clear hno
    by_cases hlt : k < ms.length
    · obtain ⟨x, hx⟩ : ∃ x, ms[k]? = some x := ⟨_, List.getElem?_eq_getElem (by omega)⟩
      have g0 : decide ((k : Int) < (ms.length : Int)) = true := decide_eq_true (by omega)
      have HX : Hid (ms[k]? = some x) := hx
      obtain ⟨bw, off, rfl, c0, c1, c2⟩ := (hM'.below hbr).at_ hx
      have nomore : ∀ (h : pairB x l r = false), ∀ (j : Nat) (y : Mg), j < k + 1 → ms[j]? = some y → pairB y l r = false := fun h j y hj hy => by
        by_cases hjk : j = k
        · subst hjk
          obtain rfl : y = x := Option.some.inj (hy.symm.trans HX.out)
          exact h
        · exact HNO.out j y (by omega) hy
      have NM : Hid (∀ (h : pairB x l r = false), ∀ (j : Nat) (y : Mg), j < k + 1 → ms[j]? = some y → pairB y l r = false) := nomore
      clear hx hM' nomore
      by_cases hl1 : x.l = l
      · by_cases hr1 : x.r = r
        · have g1 : (x.l == l) = true := by simpa using hl1
          have g2 : (x.r == r) = true := by simpa using hr1
          have HE : Hid (R = some (k, x.i)) := HR.out.trans (mergeM_of HX.out ⟨hl1, hr1⟩ HNO.out)
          clear hl1 hr1 NM
          go_wp2_with fail
          go_quiet (fail)
          go_wp2_with fail
          exact bodyPost_ret (v := .tuple #[.int .i64 (k : Nat), .int .i64 x.i, .bool true]) (by simp [results, Tryd.results59, go_sem]) rfl ⟨by rw [HE.out]; rfl, by rw [← HZ.out]; exact below_drewN hB2 _⟩
        · have g1 : (x.l == l) = true := by simpa using hl1
          have g2 : (x.r == r) = false := by simpa using hr1
          have HP : Hid (pairB x l r = false) := (by unfold pairB; rw [g2, Bool.and_false] : pairB x l r = false)
          clear hl1 hr1
          go_wp2_with fail
          exact ⟨⟨k + 1, by omega, by go_num, NM.out HP.out, hbr⟩, by simp only [intOf]; omega⟩
      · have g1 : (x.l == l) = false := by simpa using hl1
        have HP : Hid (pairB x l r = false) := (by unfold pairB; rw [g1, Bool.false_and] : pairB x l r = false)
        clear hl1
        go_wp2_with fail
        exact ⟨⟨k + 1, by omega, by go_num, NM.out HP.out, hbr⟩, by simp only [intOf]; omega⟩
    · have hkn : k = ms.length := by omega
      have HE : Hid (R = none) := HR.out.trans (mergeM_nil fun j y hy => HNO.out j y (by have := (List.getElem?_eq_some_iff.1 hy).1; omega) hy)
      subst hkn
      clear hM'
      go_wp2_with fail
      exact bodyPost_ret (v := .tuple #[.int .i64 0, .int .i64 0, .bool false]) (by simp [results, Tryd.results59, go_sem]) rfl ⟨by rw [HE.out]; rfl, by rw [← HZ.out]; exact hB2⟩
end Go.Proofs.YtjbdhakogbolkaaDoor
end
section
/- tesserabook.Intact of ints; tesseraref10.Next: their contracts. -/
namespace Go.Proofs.YtjbdhakogbolkaaDoor
open Go.RowKit Go.Joins Go.Sort
set_option linter.unusedVariables false
set_option linter.unusedSimpArgs false
set_option maxRecDepth 100000
set_option maxHeartbeats 800000 in
theorem intactN_any (g : Nat) (a : Option Addr) (cap : Nat) (l : List Int) (m : Int) (w : World) (hlen : l.length ≤ 17592186044416) (hf : OwnB w g (cellsN (fillN l m 80))) (h : CH.INS w a l) :
    Calls Tryd.prog 21 #[.slice (some ⟨g, 0, none⟩) (l.length + 80) (l.length + 80), .slice a l.length cap, .int .i64 m] w fun e w' => e = .returned (.bool true) ∧ Below w.heap.size w w' := by
  have hcell : ∀ k, k < 80 → w.cell? ⟨g, l.length + k, none⟩ = some (.int .i64 m) := fun k hk => by
    rw [hf.cell]; exact cellsN_get _ _ _ (fillN_get l m 80 k hk)
  have hsame := sameN_any (some ⟨g, 0, none⟩) a (l.length + 80) cap l w (by omega) (OwnB.ins (by unfold fillN at hf; exact hf)) h
  obtain ⟨n, hnn⟩ : ∃ n, n = l.length := ⟨_, rfl⟩
  rw [← hnn] at hcell hsame hlen ⊢
  have hgl := hf.lt
  clear hf h hnn
  have hne : (((n : Int) + 80) != ((n : Int) + 80)) = false := by simp
  have hb : 0 ≤ (n : Int) ∧ (n : Int) ≤ (n : Int) + 80 := by omega
  go_enter Tryd.func21, Tryd.ntmps21
  go_wp2_with fail
  refine hsame.mono ?_
  rintro e w1 ⟨rfl, hb1⟩
  clear hsame
  go_wp2_with fail
  go_loopw [7] (fun i wr => wr = w1 ∧ ∃ k : Nat, k ≤ 80 ∧ i = .int .i64 ((n : Int) + k)) (fun i _ => 80 + n - (intOf i).toNat)
  case atStart => exact ⟨rfl, 0, Nat.zero_le _, by simp⟩
  case round =>
    obtain ⟨rfl, k, hk, rfl⟩ := hrel
    by_cases hlt : k < 80
    · have c1 := hcell k hlt
      rw [← hb1.cell hgl] at c1
      have d : decide ((n : Int) + (k : Int) < (n : Int) + 80) = true := decide_eq_true (by omega)
      have hidx : 0 ≤ (n : Int) + (k : Int) ∧ (n : Int) + (k : Int) < (n : Int) + 80 := by omega
      have htn : ((n : Int) + (k : Int)).toNat = n + k := by omega
      have dm : (m != m) = false := by simp
      clear hcell
      go_wp2_with fail
      exact ⟨⟨trivial, k + 1, by omega, by simp; omega⟩, by simp only [intOf]; omega⟩
    · have hk80 : k = 80 := by omega
      subst hk80
      have d : decide ((n : Int) + ((80 : Nat) : Int) < (n : Int) + 80) = false := decide_eq_false (by omega)
      clear hcell
      go_wp2_with fail
      go_ret
      exact ⟨rfl, hb1⟩
theorem nxC_skip {ms : List Mg} {l : List Int} {m : Nat} (h : mpJ ms l m = none) : nxC ms l (m + 1) = nxC ms l m := by
  rw [nxC, h]
theorem nxC_end (ms : List Mg) (l : List Int) : nxC ms l (l.length - 1) = nxC ms l l.length := by
  cases hl : l.length with
  | zero => rfl
  | succ m =>
    rw [Nat.add_sub_cancel]
    refine (nxC_skip ?_).symm
    cases h : mpJ ms l m with
    | none => rfl
    | some x => have := mpJ_lt h; omega
/-- One place more. -/
def nxS (k : Nat) (o : Option (Nat × Int)) (ob : Option (Nat × Nat × Int)) : Option (Nat × Nat × Int) :=
  match o with
  | none => ob
  | some z => match ob with
    | none => some (z.1, k, z.2)
    | some y => if z.1 < y.1 then some (z.1, k, z.2) else some y
theorem nxC_s (ms : List Mg) (l : List Int) (k : Nat) : nxC ms l (k + 1) = nxS k (mpJ ms l k) (nxC ms l k) := by
  rw [nxC]
  unfold nxS
  cases mpJ ms l k <;> rfl
/-- What the document's own Next answers. -/
def nbF (o : Option (Nat × Nat × Int)) : Int × Int × Int := match o with | none => (-1, 0, 0) | some (r, a, i) => ((r : Int), (a : Int), i)
set_option maxHeartbeats 4000000 in
theorem refNext_any (aw am a b c : Option Addr) (nw cw cm na ca nb cb nc cc : Nat) (ms : List Mg) (la : Option Addr) (lc : Nat) (l : List Int) (w : World) (hl : ms.length ≤ 9223372036854775807) (hll : l.length ≤ 1099511627776) (hM : MSP w am ms) (hi : CH.INS w la l) :
    Calls Tryd.prog 39 #[.agg #[.slice aw nw cw, .slice am ms.length cm, .slice a na ca, .slice b nb cb, .slice c nc cc], .slice la l.length lc] w fun e w' => e = .returned (.tuple #[.agg #[.int .i64 (nbF (nxC ms l l.length)).1, .int .i64 (nbF (nxC ms l l.length)).2.1], .int .i64 (nbF (nxC ms l l.length)).2.2, .bool (nxC ms l l.length).isSome]) ∧ Below w.heap.size w w' := by
  rw [← nxC_end]
  have hD := DBox.new w (.slice aw nw cw) (.slice am ms.length cm) (.slice a na ca) (.slice b nb cb) (.slice c nc cc)
  have hb0 := box_below w (.cells #[.slice aw nw cw, .slice am ms.length cm, .slice a na ca, .slice b nb cb, .slice c nc cc] 30)
  obtain ⟨w1, hw1⟩ : ∃ w1, w1 = w.alloc (.cells #[.slice aw nw cw, .slice am ms.length cm, .slice a na ca, .slice b nb cb, .slice c nc cc] 30) := ⟨_, rfl⟩
  rw [← hw1] at hD hb0
  have hs1 : w1.heap.size = w.heap.size + 1 := by rw [hw1]; simp
  obtain ⟨w2, hw2⟩ : ∃ w2, w2 = (w1.alloc (.cells #[.int .i64 0, .int .i64 0] 55)).alloc (.cells #[.int .i64 (-1), .int .i64 0] 55) := ⟨_, rfl⟩
  have hb2 : Below w1.heap.size w1 w2 := by rw [hw2]; exact ((Below.refl _ w1).alloc (Nat.le_refl _) _).alloc (by simp) _
  obtain ⟨n, hnn⟩ : ∃ n, n = l.length := ⟨_, rfl⟩
  have HN : Hid (n = l.length) := hnn
  rw [← hnn] at hll ⊢
  obtain ⟨z, hz⟩ : ∃ z, z = w.heap.size := ⟨_, rfl⟩
  have HZ : Hid (z = w.heap.size) := hz
  have hR2 : w2.heap[z + 1]? = some (.cells #[.int .i64 0, .int .i64 0] 55 (0, 0)) := by
    rw [hw2, Below.heap_alloc _ _ _ (by simp; omega)]
    have := heap_alloc_new w1 (.cells #[.int .i64 0, .int .i64 0] 55)
    rw [hs1, ← hz] at this
    exact this
  have hT2 : w2.heap[z + 2]? = some (.cells #[.int .i64 (-1), .int .i64 0] 55 (0, 0)) := by
    have := heap_alloc_new (w1.alloc (.cells #[.int .i64 0, .int .i64 0] 55)) (.cells #[.int .i64 (-1), .int .i64 0] 55)
    rw [World.size_alloc, hs1, ← hz] at this
    rw [hw2]; exact this
  have hs2 : w2.heap.size = z + 3 := by rw [hw2]; simp; omega
  have x0 := hD.c0
  have x1 := hD.c1
  have x2 := hD.c2
  have x3 := hD.c3
  have x4 := hD.c4
  clear hnn
  obtain ⟨o, ho⟩ : ∃ o, o = nxC ms l (n - 1) := ⟨_, rfl⟩
  obtain ⟨n1, hn1⟩ : ∃ n1, n1 = (nbF o).1 := ⟨_, rfl⟩
  obtain ⟨n2, hn2⟩ : ∃ n2, n2 = (nbF o).2.1 := ⟨_, rfl⟩
  obtain ⟨n3, hn3⟩ : ∃ n3, n3 = (nbF o).2.2 := ⟨_, rfl⟩
  obtain ⟨f, hf⟩ : ∃ f, f = o.isSome := ⟨_, rfl⟩
  have HOO : Hid (o = nxC ms l (n - 1)) := ho
  have HN1 : Hid (n1 = (nbF o).1 ∧ n2 = (nbF o).2.1 ∧ n3 = (nbF o).2.2 ∧ f = o.isSome) := ⟨hn1, hn2, hn3, hf⟩
  rw [← ho, ← hn1, ← hn2, ← hn3, ← hf]
  clear ho hn1 hn2 hn3 hf
  go_enter Tryd.func39, Tryd.ntmps39
  go_upto_region 2 with fail
  rw [← hw1, ← hw2, ← hz]
  have hD2 := hD.below hb2
  have hB2 := hb0.trans (hb2.mono hb0.size)
  rw [← hz] at hD2 hB2
  have hcells : ∀ j v, w1.cell? ⟨w.heap.size, j, none⟩ = some v → w2.cell? ⟨z, j, none⟩ = some v := fun j v h => by
    rw [hz]
    exact (hb2.cell (World.block_lt_of_cell? w1 _ h)).trans h
  have y0 := hcells _ _ x0
  have y1 := hcells _ _ x1
  have y2 := hcells _ _ x2
  have y3 := hcells _ _ x3
  have y4 := hcells _ _ x4
  clear hw1 hw2 hz x0 x1 x2 x3 x4 hD hb0 hb2 hs1 hcells hD2
  go_wp2_with fail
  go_loopw [8, 9] (fun v8 v9 wr => ∃ k : Nat, k ≤ n - 1 ∧ v8 = .int .i64 (nbF (nxC ms l k)).2.2 ∧ v9 = .int .i64 (k : Nat) ∧ wr.heap[z + 1]? = some (.cells #[.int .i64 0, .int .i64 0] 55 (0, 0)) ∧ wr.heap[z + 2]? = some (.cells #[.int .i64 (nbF (nxC ms l k)).1, .int .i64 (nbF (nxC ms l k)).2.1] 55 (0, 0)) ∧ Below (z + 1) w2 wr) (fun _ v9 _ => n - 1 - (intOf v9).toNat)
  case atStart => exact ⟨0, Nat.zero_le _, rfl, rfl, hR2, hT2, Below.refl _ _⟩
  case round =>
    clear hR2 hT2
    obtain ⟨k, hk, rfl, rfl, hR, hT, hBr⟩ := hrel
    have hzs := hBr.size
    have hcc : ∀ j v, w2.cell? ⟨z, j, none⟩ = some v → wr.cell? ⟨z, j, none⟩ = some v := fun j v h => (hBr.cell (p := ⟨z, j, none⟩) (by show z < z + 1; omega)).trans h
    have u0 := hcc _ _ y0
    have u1 := hcc _ _ y1
    have u2 := hcc _ _ y2
    have u3 := hcc _ _ y3
    have u4 := hcc _ _ y4
    have hBz : Below w.heap.size w wr := by
      rw [← HZ.out]
      exact hB2.trans (hBr.mono (by omega))
    have hnum : 0 ≤ (nbF (nxC ms l k)).1 ∨ (nbF (nxC ms l k)).1 = -1 := by
      cases nxC ms l k with
      | none => right; rfl
      | some y => left; show 0 ≤ ((y.1 : Nat) : Int); omega
    by_cases hlt : k + 1 < n
    · have d : decide ((k : Int) + 1 < (n : Int)) = true := decide_eq_true (by omega)
      obtain ⟨x, hx⟩ : ∃ x, l[k]? = some x := ⟨_, List.getElem?_eq_getElem (by rw [← HN.out]; omega)⟩
      obtain ⟨y, hy⟩ : ∃ y, l[k + 1]? = some y := ⟨_, List.getElem?_eq_getElem (by rw [← HN.out]; omega)⟩
      obtain ⟨lb, off, rfl, c0⟩ := INS.at' (INS.below' hi hBz) hx
      obtain ⟨_, _, e0, c1⟩ := INS.at' (INS.below' hi hBz) hy
      cases e0
      have hmp : mpJ ms l k = mergeM ms x y := by unfold mpJ; rw [hx, hy]; rfl
      have HMm := fun d os => refMerge_any aw am a b c nw cw cm na ca nb cb nc cc ms x y (grow (redrawn wr d) os) hl ((hM.below hBz).below (below_regrown wr d os))
      have bi : 0 ≤ (k : Int) ∧ (k : Int) < (n : Int) := by omega
      have bj : 0 ≤ (k : Int) + 1 ∧ (k : Int) + 1 < (n : Int) := by omega
      have htn : ((k : Int) + 1).toNat = k + 1 := by omega
      obtain ⟨o, ho⟩ : ∃ o, o = mergeM ms x y := ⟨_, rfl⟩
      rw [← ho] at HMm hmp
      have k0 := cell_regrown u0
      have k1 := cell_regrown u1
      have k2 := cell_regrown u2
      have k3 := cell_regrown u3
      have k4 := cell_regrown u4
      have k5 := cell_regrown c0
      have k6 := cell_regrown c1
      obtain ⟨ob, hob⟩ : ∃ ob, ob = nxC ms l k := ⟨_, rfl⟩
      have hnx : nxC ms l (k + 1) = nxS k o ob := by rw [nxC_s, hmp, hob]
      rw [← hob] at hT hnum ⊢
      have HNX : Hid (nxC ms l (k + 1) = nxS k o ob) := hnx
      have HRr : Hid (wr.heap[z + 1]? = some (.cells #[.int .i64 0, .int .i64 0] 55 (0, 0))) := hR
      have HTr : Hid (wr.heap[z + 2]? = some (.cells #[.int .i64 (nbF ob).1, .int .i64 (nbF ob).2.1] 55 (0, 0))) := hT
      have hzl : z + 2 < wr.heap.size := (Array.getElem?_eq_some_iff.1 hT).1
      clear hx hy hmp ho hob hnx hM hi hcc u0 u1 u2 u3 u4 c0 c1 y0 y1 y2 y3 y4 hR hT
      go_upto_region 6 with fail
      cases o with
      | none =>
        rw [show mrV none = .tuple #[.int .i64 0, .int .i64 0, .bool false] from rfl] at HMm
        refine wp_region_quiet_below (by kernel_rfl) (by kernel_rfl) ?_
        repeat (go_big_quiet_step ((go_at_call 59; exact Calls.regrown_of (HMm _ _))))
        refine wpQuiet_nil ?_
        intro W5 hw'
        have hb5 : Below wr.heap.size wr W5 := by
          obtain ⟨⟨dq, osq⟩, rfl⟩ := hw'
          exact below_regrown _ _ _
        clear hw' HMm k0 k1 k2 k3 k4 k5 k6
        go_wp2_with fail
        exact ⟨⟨k + 1, by omega, by rw [HNX.out]; rfl, by simp, (hb5.block _ (by omega)).trans HRr.out, by rw [HNX.out]; exact (hb5.block _ (by omega)).trans HTr.out, hBr.trans (hb5.mono (by omega))⟩, by simp only [intOf]; omega⟩
      | some q =>
        obtain ⟨rk, id⟩ := q
        rw [show mrV (some (rk, id)) = .tuple #[.int .i64 (rk : Nat), .int .i64 id, .bool true] from rfl] at HMm
        refine wp_region_quiet_below (by kernel_rfl) (by kernel_rfl) ?_
        repeat (go_big_quiet_step ((go_at_call 59; exact Calls.regrown_of (HMm _ _))))
        refine wpQuiet_nil ?_
        intro W5 hw'
        have hb5 : Below wr.heap.size wr W5 := by
          obtain ⟨⟨dq, osq⟩, rfl⟩ := hw'
          exact below_regrown _ _ _
        clear hw' HMm k0 k1 k2 k3 k4 k5 k6
        have hR5 := (hb5.block _ (by omega)).trans HRr.out
        have hT5 := (hb5.block _ hzl).trans HTr.out
        have hB5 := hBr.trans (hb5.mono (by omega))
        have t0 := cell_of_block hT5 0
        have t1 := cell_of_block hT5 1
        have tf := fun j => unfrozen_of_block hT5 j
        simp only [List.getElem?_toArray, List.getElem?_cons_zero, List.getElem?_cons_succ] at t0 t1
        have HR5 : Hid (W5.heap[z + 1]? = some (.cells #[.int .i64 0, .int .i64 0] 55 (0, 0))) := hR5
        have HT5 : Hid (W5.heap[z + 2]? = some (.cells #[.int .i64 (nbF ob).1, .int .i64 (nbF ob).2.1] 55 (0, 0))) := hT5
        clear hR5 hT5 hb5
        have hset := block_setCell (i := 1) (block_setCell (i := 0) HT5.out (.int .i64 (rk : Nat))) (.int .i64 (k : Nat))
        have hnx : nxC ms l (k + 1) = some (rk, k, id) → (W5.setCell ⟨z + 2, 0, none⟩ (.int .i64 (rk : Nat))).setCell ⟨z + 2, 1, none⟩ (.int .i64 (k : Nat)) = (W5.setCell ⟨z + 2, 0, none⟩ (.int .i64 (rk : Nat))).setCell ⟨z + 2, 1, none⟩ (.int .i64 (k : Nat)) := fun _ => rfl
        have HSET : Hid (((W5.setCell ⟨z + 2, 0, none⟩ (.int .i64 (rk : Nat))).setCell ⟨z + 2, 1, none⟩ (.int .i64 (k : Nat))).heap[z + 2]? = some (.cells #[.int .i64 (rk : Nat), .int .i64 (k : Nat)] 55 (0, 0))) := hset
        have HRS : Hid (((W5.setCell ⟨z + 2, 0, none⟩ (.int .i64 (rk : Nat))).setCell ⟨z + 2, 1, none⟩ (.int .i64 (k : Nat))).heap[z + 1]? = some (.cells #[.int .i64 0, .int .i64 0] 55 (0, 0))) := by
          show _ = _
          rw [Below.heap_setCell _ ⟨z + 2, 1, none⟩ _ _ (by show z + 1 ≠ z + 2; omega), Below.heap_setCell _ ⟨z + 2, 0, none⟩ _ _ (by show z + 1 ≠ z + 2; omega)]
          exact HR5.out
        clear hset hnx
        cases ob with
        | none =>
          have dl : decide ((-1 : Int) < 0) = true := rfl
          have hb1 : (nbF none).1 = -1 := rfl
          rw [hb1] at t0
          go_wp2_with fail
          exact ⟨⟨k + 1, by omega, by rw [HNX.out]; rfl, by simp, HRS.out, by rw [HNX.out]; exact HSET.out, (hB5.setCell (p := ⟨z + 2, 0, none⟩) (by show z + 1 ≤ z + 2; omega) _).setCell (p := ⟨z + 2, 1, none⟩) (by show z + 1 ≤ z + 2; omega) _⟩, by simp only [intOf]; omega⟩
        | some p0 =>
          obtain ⟨r0, a0, i0⟩ := p0
          have hb1 : (nbF (some (r0, a0, i0))).1 = (r0 : Int) := rfl
          rw [hb1] at t0
          have dl : decide ((r0 : Int) < 0) = false := decide_eq_false (by omega)
          by_cases hr : rk < r0
          · have dr : decide ((rk : Int) < (r0 : Int)) = true := decide_eq_true (by omega)
            have dr2 : decide (rk < r0) = true := decide_eq_true hr
            have HE : Hid (nxC ms l (k + 1) = some (rk, k, id)) := by show _ = _; rw [HNX.out]; simp [nxS, hr]
            clear hr
            go_wp2_with fail
            exact ⟨⟨k + 1, by omega, by rw [HE.out]; rfl, by simp, HRS.out, by rw [HE.out]; exact HSET.out, (hB5.setCell (p := ⟨z + 2, 0, none⟩) (by show z + 1 ≤ z + 2; omega) _).setCell (p := ⟨z + 2, 1, none⟩) (by show z + 1 ≤ z + 2; omega) _⟩, by simp only [intOf]; omega⟩
          · have dr : decide ((rk : Int) < (r0 : Int)) = false := decide_eq_false (by omega)
            have dr2 : decide (rk < r0) = false := decide_eq_false hr
            have HE : Hid (nxC ms l (k + 1) = some (r0, a0, i0)) := by show _ = _; rw [HNX.out]; simp [nxS, hr]
            clear hr
            go_wp2_with fail
            exact ⟨⟨k + 1, by omega, by rw [HE.out], by simp, HR5.out, by rw [HE.out]; exact HT5.out, hB5⟩, by simp only [intOf]; omega⟩
    · have hke : k = n - 1 := by omega
      have d : decide ((k : Int) + 1 < (n : Int)) = false := decide_eq_false (by omega)
      have t0 := cell_of_block hT 0
      have t1 := cell_of_block hT 1
      simp only [List.getElem?_toArray, List.getElem?_cons_zero, List.getElem?_cons_succ] at t0 t1
      have hzl : z + 2 < wr.heap.size := (Array.getElem?_eq_some_iff.1 hT).1
      have hok : nxC ms l k = o := by rw [hke]; exact HOO.out.symm
      obtain ⟨hn1, hn2, hn3, hf⟩ := HN1.out
      rw [hok] at t0 t1 hnum ⊢
      have hge : decide (0 ≤ (nbF o).1) = o.isSome := by
        cases o with
        | none => rfl
        | some y => show decide (0 ≤ ((y.1 : Nat) : Int)) = true; exact decide_eq_true (by omega)
      rw [← hn1, ← hf] at hge
      rw [← hn1] at t0
      rw [← hn2] at t1
      rw [← hn3]
      clear hke hok hT hM hi hcc u0 u1 u2 u3 u4 y0 y1 y2 y3 y4 hn1 hn2 hn3 hf hnum
      have r0 := cell_of_block hR 0
      have r1 := cell_of_block hR 1
      have rf := fun j => unfrozen_of_block hR j
      simp only [List.getElem?_toArray, List.getElem?_cons_zero, List.getElem?_cons_succ] at r0 r1
      have B5 : Below z w wr := by
        have := HZ.out
        rw [← this] at hBz
        exact hBz
      go_upto_region 10 with fail
      refine wp_region_heldtail 7 (fun w' : World => w'.cell? ⟨z + 2, 0, none⟩ = some (.int .i64 n1) ∧ w'.cell? ⟨z + 2, 1, none⟩ = some (.int .i64 n2)) (by kernel_rfl) (by kernel_rfl) ?_
      refine HL_take (i := 0) (.agg #[.int .i64 n1, .int .i64 n2]) (by kernel_rfl) rfl (by omega) (by kernel_rfl) (by kernel_rfl) (by kernel_rfl) (fun _ _ _ h => h) (.inl ⟨by kernel_rfl, fun w' hw' => by obtain ⟨q1, q2⟩ := hw'; go_simp⟩) ⟨t0, t1⟩ ?_
      simp only [Act.put, List.getElem_toArray, List.getElem_cons_zero, List.getElem_cons_succ, List.setIfInBounds_toArray, List.set_cons_zero, List.set_cons_succ]
      refine HL_take (i := 1) (.int .i64 n3) (by kernel_rfl) rfl (by omega) (by kernel_rfl) (by kernel_rfl) (by kernel_rfl) (fun _ _ _ h => h) (.inl ⟨by kernel_rfl, fun w' hw' => by obtain ⟨q1, q2⟩ := hw'; go_simp⟩) ⟨t0, t1⟩ ?_
      simp only [Act.put, List.getElem_toArray, List.getElem_cons_zero, List.getElem_cons_succ, List.setIfInBounds_toArray, List.set_cons_zero, List.set_cons_succ]
      refine HL_take (i := 2) (.pointer (some ⟨z + 2, 0, none⟩)) (by kernel_rfl) rfl (by omega) (by kernel_rfl) (by kernel_rfl) (by kernel_rfl) (fun _ _ _ h => h) (.inl ⟨by kernel_rfl, fun w' hw' => by obtain ⟨q1, q2⟩ := hw'; go_simp⟩) ⟨t0, t1⟩ ?_
      simp only [Act.put, List.getElem_toArray, List.getElem_cons_zero, List.getElem_cons_succ, List.setIfInBounds_toArray, List.set_cons_zero, List.set_cons_succ]
      refine HL_take (i := 3) (.int .i64 n1) (by kernel_rfl) rfl (by omega) (by kernel_rfl) (by kernel_rfl) (by kernel_rfl) (fun _ _ _ h => h) (.inl ⟨by kernel_rfl, fun w' hw' => by obtain ⟨q1, q2⟩ := hw'; go_simp⟩) ⟨t0, t1⟩ ?_
      simp only [Act.put, List.getElem_toArray, List.getElem_cons_zero, List.getElem_cons_succ, List.setIfInBounds_toArray, List.set_cons_zero, List.set_cons_succ]
      refine HL_take (i := 4) (.bool f) (by kernel_rfl) rfl (by omega) (by kernel_rfl) (by kernel_rfl) (by kernel_rfl) (fun _ _ _ h => h) (.inl ⟨by kernel_rfl, fun w' hw' => by obtain ⟨q1, q2⟩ := hw'; go_simp⟩) ⟨t0, t1⟩ ?_
      simp only [Act.put, List.getElem_toArray, List.getElem_cons_zero, List.getElem_cons_succ, List.setIfInBounds_toArray, List.set_cons_zero, List.set_cons_succ]
      refine HL_one (i := 5) rfl (by omega) (by kernel_rfl) rfl ?_
      unfold Oper.wp
      simp only [List.getElem_toArray, List.getElem_cons_zero, List.getElem_cons_succ]
      go_simp
      refine HL_take (i := 6) (.int .i64 n3) (by kernel_rfl) rfl (by omega) (by kernel_rfl) (by kernel_rfl) (by kernel_rfl) (fun _ _ _ h => h) (.inl ⟨by kernel_rfl, fun w' hw' => by obtain ⟨q1, q2⟩ := hw'; go_simp⟩) (by refine ⟨?_, ?_⟩ <;> go_simp) ?_
      simp only [Act.put, List.getElem_toArray, List.getElem_cons_zero, List.getElem_cons_succ, List.setIfInBounds_toArray, List.set_cons_zero, List.set_cons_succ]
      refine ⟨by kernel_rfl, ?_⟩
      simp only [List.drop_succ_cons, List.drop_zero]
      have B6 : Below z w ((wr.drew.setCell ⟨z + 1, 0, none⟩ (.int .i64 n1)).setCell ⟨z + 1, 1, none⟩ (.int .i64 n2)) := ((B5.drew).setCell (p := ⟨z + 1, 0, none⟩) (by show z ≤ z + 1; omega) _).setCell (p := ⟨z + 1, 1, none⟩) (by show z ≤ z + 1; omega) _
      go_wp2_with fail
      refine bodyPost_ret (v := .tuple #[.agg #[.int .i64 n1, .int .i64 n2], .int .i64 n3, .bool f]) (by simp [results, Tryd.results39, go_sem, r0, r1]) rfl ⟨rfl, ?_⟩
      rw [← HZ.out]
      exact B6
end Go.Proofs.YtjbdhakogbolkaaDoor
end
section
/- tesseraref10.Joined: its contract. -/
namespace Go.Proofs.YtjbdhakogbolkaaDoor
open Go.RowKit Go.Joins Go.Sort
set_option linter.unusedVariables false
set_option linter.unusedSimpArgs false
set_option maxRecDepth 100000
def encS (p : Nat × Nat) : List Value := [.int .i64 (p.1 : Nat), .int .i64 (p.2 : Nat)]
/-- A row of steps of one's own. -/
def RowS (w : World) (base : Nat) (v : Value) (st : List (Nat × Nat)) : Prop := w.ownsRow base 55 2 v st.length (st.flatMap encS)
theorem RowS.below {w w' : World} {base : Nat} {v : Value} {l : List (Nat × Nat)} (h : RowS w base v l) (hb : Below w.heap.size w w') : RowS w' base v l :=
  World.ownsRow.kept h ⟨hb.os, hb.tape, hb.output, hb.size, fun k hk _ => hb.block k hk⟩ (row := none) (by cases v.ownBlock <;> simp)
theorem infoS : (Tryd.prog.info? 55).map (fun i => (i.zero, i.size, i.bytes)) = some (some (.agg #[.int .i64 0, .int .i64 0]), 2, 16) := by kernel_rfl
theorem run_pushS (W : World) (base : Nat) (v : Value) (L : List (Nat × Nat)) (x : Nat × Nat) (b : Nat) (hown : RowS W base v L) (hx : W.heap[b]? = some (.cells #[.int .i64 (x.1 : Nat), .int .i64 (x.2 : Nat)] 55 (0, 0))) (hb : base ≤ W.heap.size) (hl : L.length + 1 ≤ 1099511627776) :
    ∃ v' w', (Builtin.append_ #[50, 50] 50 #[v, .slice (some ⟨b, 0, none⟩) 1 1]).run Tryd.prog W = .ok v' w' ∧ RowS w' base v' (L ++ [x]) ∧ W.grownBy w' v.ownBlock ∧ Moved v v' W.heap.size := by
  obtain ⟨i0, hi0, hz0, hz1, hz2⟩ := HQ.info_parts infoS
  exact run_own_g 50 55 i0 _ 2 16 encS (fun _ => rfl) (by omega) (fun x v hv => by unfold encS at hv; simp at hv; rcases hv with rfl | rfl <;> rfl) Tryd.underlying50 hi0 hz0 hz1 hz2 rfl W base v L x b 1 hown hx hb (by omega) (by omega)
/-- A row of ints in its block. -/
theorem RowN.inn {w : World} {base b n cap : Nat} {l : List Int} (h : RowN w base (.slice (some ⟨b, 0, none⟩) n cap) l) : n = l.length ∧ ∃ cur : Array Value, base ≤ b ∧ w.heap[b]? = some (.cells cur 3 (0, 0)) ∧ l.length ≤ cap ∧ cap ≤ maxLen ∧ cur.size = cap * 1 ∧ cur.toList.take (l.length * 1) = l.flatMap encN := by
  rcases h.2 with ⟨e, _⟩ | ⟨b', cap', cur, e, hb, hh, hn, hm, hcs, htk⟩
  · cases e
  · cases e
    exact ⟨rfl, cur, hb, hh, hn, hm, hcs, htk⟩
theorem RowN.set {w : World} {base b cap : Nat} {l : List Int} (h : RowN w base (.slice (some ⟨b, 0, none⟩) l.length cap) l) (a : Nat) (id : Int) : RowN (w.setCell ⟨b, a, none⟩ (.int .i64 id)) base (.slice (some ⟨b, 0, none⟩) (l.set a id).length cap) (l.set a id) := by
  have h1 := (World.ownsRow.stored h a (.int .i64 id)).1
  have hset : (l.flatMap encN).set a (.int .i64 id) = (l.set a id).flatMap encN := by rw [encN_flat, encN_flat, List.map_set]
  rw [hset] at h1
  unfold RowN
  rw [List.length_set]
  exact h1
/-- One of a row is cut out, in place. -/
theorem run_cutN (w : World) (base b cap : Nat) (m : List Int) (a : Nat) (hN : RowN w base (.slice (some ⟨b, 0, none⟩) m.length cap) m) (ha : a + 1 < m.length) (c2 : Nat) (x : Addr) (hx : x = ⟨b, a + 2, none⟩ ∨ m.length = a + 2) :
    ∃ w', (Builtin.append_ #[34, 34] 34 #[.slice (some ⟨b, 0, none⟩) (a + 1) cap, .slice (some x) (m.length - (a + 2)) c2]).run Tryd.prog w = .ok (.slice (some ⟨b, 0, none⟩) (m.length - 1) cap) w' ∧
      RowN w' base (.slice (some ⟨b, 0, none⟩) (m.length - 1) cap) (m.eraseIdx (a + 1)) ∧ w.grownBy w' (some b) := by
  obtain ⟨i0, hi0, hz0, hz1, hz2⟩ := HQ.info_parts infoN
  obtain ⟨-, cur, hb, hh, hn, hmx, hcs, htk⟩ := hN.inn
  have hpre : w.ownsRow base 3 1 (.slice (some ⟨b, 0, none⟩) (a + 1) cap) (a + 1) ((m.take (a + 1)).flatMap encN) := by
    refine ⟨by rw [encN_flat]; simp; omega, .inr ⟨b, cap, cur, rfl, hb, hh, by omega, hmx, hcs, ?_⟩⟩
    have : cur.toList.take ((a + 1) * 1) = (cur.toList.take (m.length * 1)).take ((a + 1) * 1) := by
      rw [List.take_take, Nat.min_eq_left (by omega)]
    rw [this, htk, encN_flat, encN_flat, Nat.mul_one, List.map_take]
  have hsrc : ∀ j u, ((m.drop (a + 2)).flatMap encN)[j]? = some u → w.cell? (x.add j) = some u := by
    intro j u hu
    rcases hx with rfl | hx
    case inr =>
      rw [List.drop_of_length_le (by omega)] at hu
      simp at hu
    have hj : (m.flatMap encN)[a + 2 + j]? = some u := by
      rw [encN_flat] at hu ⊢
      rw [List.map_drop, List.getElem?_drop] at hu
      exact hu
    have := World.ownsRow.cells hN (g := b) rfl (a + 2 + j) u hj
    rw [cell_add, Nat.zero_add] at this
    rw [cell_add]
    exact this
  obtain ⟨w', g1, g2, g3⟩ := run_append_fits (P := Tryd.prog) w base 34 34 3 i0 1 Tryd.underlying34 hi0 hz1 b (a + 1) cap _ hpre x (m.length - (a + 2)) c2 ((m.drop (a + 2)).flatMap encN) (by rw [encN_flat]; simp) hsrc (fun v hv => by
    rw [encN_flat] at hv
    obtain ⟨y, _, rfl⟩ := List.mem_map.1 hv
    rfl) (by omega)
  have he : a + 1 + (m.length - (a + 2)) = m.length - 1 := by omega
  rw [he] at g1 g2
  refine ⟨w', g1, ?_, g3⟩
  unfold RowN
  rw [List.length_eraseIdx_of_lt ha, List.eraseIdx_eq_take_drop_succ, List.flatMap_append]
  exact g2
theorem wrap12 {x : Int} (h0 : 0 ≤ x) (h : x + 2 ≤ 1099511627) : wrap64 (x + 1) = x + 1 ∧ wrap64 (x + 2) = x + 2 :=
  ⟨IntWalk.wrap64_in _ ⟨by omega, by omega⟩, IntWalk.wrap64_in _ ⟨by omega, by omega⟩⟩
def sliceLen (v : Value) : Nat := match v with | .slice _ n _ => n | _ => 0
set_option maxHeartbeats 4000000 in
theorem refJoined_any (aw am a b0 c : Option Addr) (nw cw cm na ca nb cb nc cc : Nat) (ms : List Mg) (la : Option Addr) (lc : Nat) (l : List Int) (w : World) (hl : ms.length ≤ 9223372036854775807) (hll : l.length ≤ 1099511627) (hM : MSP w am ms) (hi : CH.INS w la l) :
    Calls Tryd.prog 17 #[.agg #[.slice aw nw cw, .slice am ms.length cm, .slice a na ca, .slice b0 nb cb, .slice c nc cc], .slice la l.length lc] w fun e w' => ∃ v sv st r, e = .returned (.tuple #[v, sv]) ∧ RowN w' w.heap.size v r ∧ RowS w' w.heap.size sv st ∧ JR ms l st r ∧ Below w.heap.size w w' := by
  have hD := DBox.new w (.slice aw nw cw) (.slice am ms.length cm) (.slice a na ca) (.slice b0 nb cb) (.slice c nc cc)
  have hb0 := box_below w (.cells #[.slice aw nw cw, .slice am ms.length cm, .slice a na ca, .slice b0 nb cb, .slice c nc cc] 30)
  obtain ⟨w1, hw1⟩ : ∃ w1, w1 = w.alloc (.cells #[.slice aw nw cw, .slice am ms.length cm, .slice a na ca, .slice b0 nb cb, .slice c nc cc] 30) := ⟨_, rfl⟩
  rw [← hw1] at hD hb0
  have hs1 : w1.heap.size = w.heap.size + 1 := by rw [hw1]; simp
  obtain ⟨z, hz⟩ : ∃ z, z = w.heap.size := ⟨_, rfl⟩
  have HZ : Hid (z = w.heap.size) := hz
  rw [← hz] at hs1 hb0 hD ⊢
  obtain ⟨w2, hw2⟩ : ∃ w2, w2 = w1.alloc (.cells #[] 3) := ⟨_, rfl⟩
  have hb2 : Below w1.heap.size w1 w2 := by rw [hw2]; exact (Below.refl _ w1).alloc (Nat.le_refl _) _
  have hN2 : RowN w2 (z + 1) (.slice (some ⟨z + 1, 0, none⟩) 0 0) [] :=
    ⟨rfl, .inr ⟨z + 1, 0, #[], rfl, Nat.le_refl _, by rw [hw2, ← hs1]; exact heap_alloc_new w1 _, Nat.le_refl _, by simp [maxLen], rfl, rfl⟩⟩
  have hs2 : w2.heap.size = z + 2 := by rw [hw2]; simp; omega
  have hB2 := hb0.trans (hb2.mono (by omega))
  obtain ⟨v3, w3, hr3, hN3, hb3, hnb3⟩ := run_catN w2 (z + 1) _ [] la lc l hN2 (INS.below' (INS.below' hi (by rw [← hz]; exact hb0)) hb2) (by simp [Value.ownBlock]) (by omega) (by rw [List.length_nil]; omega)
  rw [List.nil_append] at hN3
  have hB3 := hB2.trans (hb3.mono (by omega))
  have x0 := hD.c0
  have x1 := hD.c1
  have x2 := hD.c2
  have x3 := hD.c3
  have x4 := hD.c4
  have hcells : ∀ j v, w1.cell? ⟨z, j, none⟩ = some v → w3.cell? ⟨z, j, none⟩ = some v := fun j v h =>
    (hb3.cell (p := ⟨z, j, none⟩) (by show z < z + 1; omega)).trans ((hb2.cell (p := ⟨z, j, none⟩) (by show z < w1.heap.size; omega)).trans h)
  have y0 := hcells _ _ x0
  have y1 := hcells _ _ x1
  have y2 := hcells _ _ x2
  have y3 := hcells _ _ x3
  have y4 := hcells _ _ x4
  have hs3 := hb3.size
  rw [hw2, hw1] at hr3
  obtain ⟨n, hnn⟩ : ∃ n, n = l.length := ⟨_, rfl⟩
  have HN : Hid (n = l.length) := hnn
  rw [← hnn] at hr3 hll ⊢
  rw [hz] at hr3
  clear hnn x0 x1 x2 x3 x4 hcells hb0 hb2 hb3 hN2 hD hB2 hw2
  go_enter Tryd.func17, Tryd.ntmps17
  clear hw1 hz
  go_wp2_with (at_builtin; refine wpList_append_run rfl (.tmp 11) (.tmp 12) 34 34 rfl _ _ rfl rfl _ w3 hr3 ?_; clear hr3)
  rw [← HZ.out]
  go_loopw [6, 7] (fun v6 v7 wr => ∃ (cur : List Int) (st : List (Nat × Nat)) (lv sv : Value), lv = v6 ∧ sv = v7 ∧ JS ms l st cur ∧ RowN wr (z + 1) lv cur ∧ lv.ownBlock ≠ none ∧ RowS wr (z + 1) sv st ∧ (sv.ownBlock = none ∨ sv.ownBlock ≠ lv.ownBlock) ∧ Below (z + 1) w3 wr) (fun v6 _ _ => sliceLen v6)
  case atStart => exact ⟨l, [], _, _, rfl, rfl, JS.nil, hN3, hnb3, World.ownsRow_nil _ _ _ _, .inl rfl, Below.refl _ _⟩
  case round =>
    obtain ⟨cur, st, lv, sv, hlv, hsv, hjs, hN, hnb, hS, hdj, hBr⟩ := hrel
    subst hlv
    subst hsv
    obtain ⟨b, cap, rfl⟩ : ∃ b cap, lv = .slice (some ⟨b, 0, none⟩) cur.length cap := by
      rcases ownsRow_forms hN with ⟨rfl, _⟩ | ⟨b, q, e⟩
      · exact absurd rfl hnb
      · exact ⟨b, q, e⟩
    have hcl := hjs.len
    obtain ⟨_, _, e0, hin⟩ := hN.ins
    cases e0
    have hzs := hBr.size
    have hBz : Below z w wr := hB3.trans (hBr.mono (by omega))
    have hBw : Below w.heap.size w wr := by rw [← HZ.out]; exact hBz
    have HNx := refNext_any aw am a b0 c nw cw cm na ca nb cb nc cc ms (some ⟨b, 0, none⟩) cap cur wr hl (by rw [← HN.out] at hcl; omega) (hM.below hBw) hin
    have u0 := (hBr.cell (p := ⟨z, 0, none⟩) (by show z < z + 1; omega)).trans y0
    have u1 := (hBr.cell (p := ⟨z, 1, none⟩) (by show z < z + 1; omega)).trans y1
    have u2 := (hBr.cell (p := ⟨z, 2, none⟩) (by show z < z + 1; omega)).trans y2
    have u3 := (hBr.cell (p := ⟨z, 3, none⟩) (by show z < z + 1; omega)).trans y3
    have u4 := (hBr.cell (p := ⟨z, 4, none⟩) (by show z < z + 1; omega)).trans y4
    have hM0 : Hid (MSP w am ms) := hM
    have hI0 : Hid (CH.INS w la l) := hi
    obtain ⟨q, hq⟩ : ∃ q, q = cur.length := ⟨_, rfl⟩
    have HQ0 : Hid (q = cur.length) := hq
    cases hnx : nxC ms cur cur.length with
    | none =>
      rw [hnx] at HNx
      have HNO : Hid (NoN ms cur) := nxC_none hnx
      rw [show nbF none = (-1, 0, 0) from rfl] at HNx
      rw [← hq] at HNx ⊢
      simp only [Option.isSome_none] at HNx
      clear hnx hq
      go_wp2_with fail
      refine HNx.mono ?_
      rintro e w5 ⟨rfl, hb5⟩
      clear HNx u0 u1 u2 u3 u4
      have hb6 : Below wr.heap.size wr (w5.alloc (.cells #[.int .i64 (-1), .int .i64 0] 55)) := hb5.alloc hb5.size _
      go_wp2_with fail
      refine bodyPost_ret (v := .tuple #[.slice (some ⟨b, 0, none⟩) q cap, sv]) (by simp [results, Tryd.results17, go_sem]) rfl ⟨_, sv, st, cur, rfl, ?_, ?_, hjs.fin HNO.out, hBz.trans (hb6.mono (by omega))⟩
      · have h1 := hN.below hb6
        rw [HQ0.out]
        exact ⟨h1.1, by
          rcases h1.2 with h0 | ⟨b', cap', cur', e, hb', rr⟩
          · exact .inl h0
          · exact .inr ⟨b', cap', cur', e, by omega, rr⟩⟩
      · have h1 := hS.below hb6
        exact ⟨h1.1, by
          rcases h1.2 with h0 | ⟨b', cap', cur', e, hb', rr⟩
          · exact .inl h0
          · exact .inr ⟨b', cap', cur', e, by omega, rr⟩⟩
    | some y =>
      obtain ⟨rk, p0, id⟩ := y
      rw [hnx] at HNx
      have hISN := nxC_some hnx
      have hplt := mpJ_lt hISN.1
      have HIS : Hid (IsN ms cur rk p0 id) := hISN
      rw [show nbF (some (rk, p0, id)) = ((rk : Int), (p0 : Int), id) from rfl] at HNx
      rw [← hq] at HNx hplt ⊢
      simp only [Option.isSome_some] at HNx
      clear hnx hISN hq
      go_wp2_with fail
      refine HNx.mono ?_
      rintro e w5 ⟨rfl, hb5⟩
      clear HNx u0 u1 u2 u3 u4
      obtain ⟨w6, hw6⟩ : ∃ w6, w6 = w5.alloc (.cells #[.int .i64 (rk : Nat), .int .i64 (p0 : Nat)] 55) := ⟨_, rfl⟩
      have hb6 : Below wr.heap.size wr w6 := by rw [hw6]; exact hb5.alloc hb5.size _
      have hp6 : w6.heap[w5.heap.size]? = some (.cells #[.int .i64 (rk : Nat), .int .i64 (p0 : Nat)] 55 (0, 0)) := by rw [hw6]; exact heap_alloc_new w5 _
      have hN6 := hN.below hb6
      have hbw := (World.ownsRow.lt hN b rfl)
      have hne5 : b ≠ w5.heap.size := by have := hb5.size; omega
      have hN7 := hN6.set p0 id
      have hp7 : (w6.setCell ⟨b, p0, none⟩ (.int .i64 id)).heap[w5.heap.size]? = _ := (Below.heap_setCell w6 ⟨b, p0, none⟩ _ _ (fun e => hne5 e.symm)).trans hp6
      obtain ⟨u, hu⟩ : ∃ u, cur[p0]? = some u := ⟨_, List.getElem?_eq_getElem (by rw [← HQ0.out]; omega)⟩
      have c0 : w6.cell? ⟨b, p0, none⟩ = some (.int .i64 u) := by
        have := World.ownsRow.cells hN6 (g := b) rfl p0 (.int .i64 u) (by rw [encN_flat, List.getElem?_map, hu]; rfl)
        rw [cell_add, Nat.zero_add] at this
        exact this
      have f0 : w6.frozen? ⟨b, p0, none⟩ = false := World.ownsRow.frozenAt hN6 p0
      have p1 := cell_of_block hp6 1
      simp only [List.getElem?_toArray, List.getElem?_cons_zero, List.getElem?_cons_succ] at p1
      have bi : 0 ≤ (p0 : Int) ∧ (p0 : Int) < (q : Int) := by omega
      rw [hw6] at c0 f0 p1
      clear hu
      go_upto_region 7 with fail
      rw [← hw6]
      have hg7 := (World.ownsRow.stored hN6 p0 (.int .i64 id)).2
      obtain ⟨w7, hw7⟩ : ∃ w7, w7 = w6.setCell ⟨b, p0, none⟩ (.int .i64 id) := ⟨_, rfl⟩
      rw [← hw7] at hN7 hp7 hg7 ⊢
      have p1' := cell_of_block hp7 1
      simp only [List.getElem?_toArray, List.getElem?_cons_zero, List.getElem?_cons_succ] at p1'
      have pr := cell_regrown p1'
      obtain ⟨-, cur6, hbb6, hh6, hcap6, hmx6, hcs6, htk6⟩ := hN6.inn
      have hcapq : q ≤ cap := by rw [HQ0.out]; exact hcap6
      have b1 : 0 ≤ (p0 : Int) + 1 ∧ (p0 : Int) + 1 ≤ (cap : Int) := by omega
      have b2 : 0 ≤ (p0 : Int) + 2 ∧ (p0 : Int) + 2 ≤ (q : Int) := by omega
      have hcm : cap ≤ 9223372036854775807 := by unfold maxLen at hmx6; omega
      have hq9 : q ≤ 1099511627 := by rw [HQ0.out]; rw [← HN.out] at hcl; omega
      have pq : (p0 : Int) + 2 ≤ 1099511627 := by omega
      have pz : (0 : Int) ≤ (p0 : Int) := by omega
      clear hw7 p1 p1' c0 f0 hw6 hh6 htk6 hcs6 hmx6 hcap6 hbb6 bi
      refine wp_region_quiet_tail (C := fun w' => ∃ p : Regrown, w' = grow (redrawn w7 p.d) p.os) 10 (by kernel_rfl) (by kernel_rfl) ⟨⟨_, #[]⟩, by rw [grow_empty]; rfl⟩ ?_
      simp only [List.take_succ_cons, List.take_zero, List.drop_succ_cons, List.drop_zero]
      repeat (go_big_quiet_step (fail))
      refine wpQuiet_nil ?_
      intro w8 hw'
      have hb8 : Below w7.heap.size w7 w8 := by
        obtain ⟨⟨dq, osq⟩, rfl⟩ := hw'
        exact below_regrown _ _ _
      clear hw' pr
      have hN8 := hN7.below hb8
      have hl8 : (cur.set p0 id).length = q := by rw [List.length_set, HQ0.out]
      obtain ⟨x, hx, hxx⟩ : ∃ x : Addr, some x = (if cap = p0 + 2 then some (⟨b, 0, none⟩ : Addr) else some ⟨b, p0 + 2, none⟩) ∧ (x = ⟨b, p0 + 2, none⟩ ∨ (cur.set p0 id).length = p0 + 2) := by
        by_cases h : cap = p0 + 2
        · exact ⟨⟨b, 0, none⟩, by rw [if_pos h], .inr (by rw [hl8]; omega)⟩
        · exact ⟨⟨b, p0 + 2, none⟩, by rw [if_neg h], .inl rfl⟩
      obtain ⟨w9, hr9, hN9, hg9⟩ := run_cutN w8 (z + 1) b cap (cur.set p0 id) p0 hN8 (by rw [hl8]; exact hplt) (cap - (p0 + 2)) x hxx
      rw [hl8, hx] at hr9
      rw [hl8] at hN9
      have hS6 := hS.below hb6
      have hS7 : RowS w7 (z + 1) sv st := World.ownsRow.kept hS6 hg7 hdj
      have hS8 := hS7.below hb8
      have hS9 : RowS w9 (z + 1) sv st := World.ownsRow.kept hS8 hg9 hdj
      have s6 := hb6.size
      have s7 := hg7.size
      have s8 := hb8.size
      have s9 := hg9.size
      have hB9 : Below (z + 1) w3 w9 := (((hBr.trans (hb6.mono (by omega))).grown hg7 (by omega) (fun k hk => by cases hk; exact hbw.1)).trans (hb8.mono (by omega))).grown hg9 (by omega) (fun k hk => by cases hk; exact hbw.1)
      have hp8 := (hb8.block w5.heap.size (Array.getElem?_eq_some_iff.1 hp7).1).trans hp7
      have hp9 := (hg9.block w5.heap.size (Array.getElem?_eq_some_iff.1 hp8).1 (fun e => hne5 (Option.some.inj e).symm)).trans hp8
      have k0 := cell_of_block hp9 0
      have k1 := cell_of_block hp9 1
      simp only [List.getElem?_toArray, List.getElem?_cons_zero, List.getElem?_cons_succ] at k0 k1
      obtain ⟨w10, hw10⟩ : ∃ w10, w10 = w9.alloc (.cells #[.int .i64 (rk : Nat), .int .i64 (p0 : Nat)] 55) := ⟨_, rfl⟩
      have hb10 : Below w9.heap.size w9 w10 := by rw [hw10]; exact (Below.refl _ w9).alloc (Nat.le_refl _) _
      have hx10 : w10.heap[w9.heap.size]? = some (.cells #[.int .i64 (rk : Nat), .int .i64 (p0 : Nat)] 55 (0, 0)) := by rw [hw10]; exact heap_alloc_new w9 _
      have s10 := hb10.size
      obtain ⟨sv', w11, hr11, hS11, hg11, hm11⟩ := run_pushS w10 (z + 1) sv st (rk, p0) w9.heap.size (hS9.below hb10) hx10 (by omega) (by rw [← HN.out] at hcl; omega)
      have hN10 := hN9.below hb10
      have hN11 : RowN w11 (z + 1) (.slice (some ⟨b, 0, none⟩) (q - 1) cap) ((cur.set p0 id).eraseIdx (p0 + 1)) := World.ownsRow.kept hN10 hg11 (.inr (by
        rcases hdj with h | h
        · rw [h]; exact fun e => by cases e
        · exact fun e => h e.symm))
      have hB11 : Below (z + 1) w3 w11 := (hB9.trans (hb10.mono (by omega))).grown hg11 (by omega) (fun k hk => (World.ownsRow.lt hS9 k hk).1)
      have hdj11 : sv'.ownBlock = none ∨ sv'.ownBlock ≠ some b := by
        cases ho : sv'.ownBlock with
        | none => exact .inl rfl
        | some k =>
          refine .inr fun e => ?_
          cases e
          rcases hm11 b ho with h | h
          · rcases hdj with h2 | h2
            · rw [h2] at h; cases h
            · exact h2 h
          · omega
      rw [hw10] at hr11
      have HJ : Hid (JS ms l st cur) := hjs
      have HN1 : Hid _ := hN11
      have HS1 : Hid _ := hS11
      have HB1 : Hid _ := hB11
      have HD1 : Hid _ := hdj11
      clear hin hN hS hdj hnb hBz hBw hBr hzs hb5 hb6 hN6 hne5 hg7 hN7 hp7 hp6 hcl hB3 hnb3 hN3 hjs hN8 hl8 hx hxx hN9 hg9 hS6 hS7 hS8 hS9 hB9 hp8 hp9 hw10 hb10 hx10 hS11 hg11 hm11 hN10 hN11 hB11 hdj11 hb8
      refine wpList_append_run rfl (.tmp 34) (.tmp 39) 34 34 rfl _ _ rfl rfl _ w9 hr9 ?_
      clear hr9
      go_wp2_with (at_builtin; refine wpList_append_run rfl (.tmp 41) (.tmp 43) 50 50 rfl _ _ rfl rfl _ w11 hr11 ?_; clear hr11)
      go_roundw
      case rel => exact ⟨repl cur p0 id, st ++ [(rk, p0)], _, _, rfl, rfl, HJ.out.snoc HIS.out, by
        have := HN1.out
        exact this, by simp [Value.ownBlock], HS1.out, HD1.out, HB1.out⟩
      case measure => simp only [sliceLen]; omega
end Go.Proofs.YtjbdhakogbolkaaDoor
end
