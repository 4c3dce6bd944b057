import Derived.Test.YtjbdhakogbolkaaDoorJ4
import Derived.Test.YtjbdhakogbolkaaDoorJ5
import Derived.Test.YtjbdhakogbolkaaDoorJ3
section
/- All old blocks but one stand as they stood; blocks of cells are kept. -/
namespace Go.Proofs.YtjbdhakogbolkaaDoor
open Go.RowKit Go.Sort Go.Joins
set_option linter.unusedVariables false
def But (b B : Nat) (W W' : World) : Prop := W'.os = W.os ∧ W'.tape = W.tape ∧ W'.output = W.output ∧ W.heap.size ≤ W'.heap.size ∧ ∀ k, k < B → k ≠ b → W'.heap[k]? = W.heap[k]?
theorem But.refl (b B : Nat) (W : World) : But b B W W := ⟨rfl, rfl, rfl, Nat.le_refl _, fun _ _ _ => rfl⟩
theorem But.of_below {b B : Nat} {W W' : World} (h : Below B W W') : But b B W W' := ⟨h.os, h.tape, h.output, h.size, fun k hk _ => h.block k hk⟩
theorem But.trans {b B : Nat} {X Y Z : World} (h : But b B X Y) (k : But b B Y Z) : But b B X Z := ⟨k.1.trans h.1, k.2.1.trans h.2.1, k.2.2.1.trans h.2.2.1, Nat.le_trans h.2.2.2.1 k.2.2.2.1, fun i hi hb => (k.2.2.2.2 i hi hb).trans (h.2.2.2.2 i hi hb)⟩
theorem But.setCell {b B : Nat} {W W' : World} (h : But b B W W') (j : Nat) (v : Value) : But b B W (W'.setCell ⟨b, j, none⟩ v) := ⟨h.1, h.2.1, h.2.2.1, by simpa using h.2.2.2.1, fun k hk hb => (Below.heap_setCell _ _ _ k hb).trans (h.2.2.2.2 k hk hb)⟩
theorem But.below {b B B' : Nat} {W W' : World} (h : But b B W W') (hB : B' ≤ B) (hb : B' ≤ b) : Below B' W W' := ⟨h.1, h.2.1, h.2.2.1, h.2.2.2.1, fun k hk => h.2.2.2.2 k (by omega) (by omega)⟩
theorem But.size {b B : Nat} {W W' : World} (h : But b B W W') : W.heap.size ≤ W'.heap.size := h.2.2.2.1
theorem But.mono {b B B' : Nat} {W W' : World} (h : But b B W W') (hB : B' ≤ B) : But b B' W W' := ⟨h.1, h.2.1, h.2.2.1, h.2.2.2.1, fun k hk hb => h.2.2.2.2 k (by omega) hb⟩
theorem But.grown {b B : Nat} {W W' W'' : World} (h : But b B W W') (hg : W'.grownBy W'' (some b)) (hB : B ≤ W'.heap.size) : But b B W W'' :=
  ⟨hg.os.trans h.1, hg.tape.trans h.2.1, hg.output.trans h.2.2.1, Nat.le_trans h.2.2.2.1 hg.size, fun k hk hb => (hg.block k (by omega) (fun e => hb (Option.some.inj e))).trans (h.2.2.2.2 k hk hb)⟩
theorem But.above {b B : Nat} {W W' : World} (h : But b B W W') {p : Addr} (hp : B ≤ p.block) (v : Value) : But b B W (W'.setCell p v) := ⟨h.1, h.2.1, h.2.2.1, by simpa using h.2.2.2.1, fun k hk hb => (Below.heap_setCell _ _ _ k (by omega)).trans (h.2.2.2.2 k hk hb)⟩
/-- Blocks of cells stand as they stood. -/
def CK (w w' : World) : Prop := ∀ (k : Nat) cur t z, w.heap[k]? = some (.cells cur t z) → w'.heap[k]? = some (.cells cur t z)
theorem MapI.ne {α : Type} {K : TypeId} {kv : α → Value} {w : World} {b n k : Nat} {f : α → Option Int} {cur t z} (h : MapI w K kv b n f) (hk : w.heap[k]? = some (.cells cur t z)) : k ≠ b := by
  rintro rfl
  obtain ⟨D, ⟨es, clock, hb, -⟩, -⟩ := h
  rw [hk] at hb
  cases hb
theorem But.ck {α : Type} {K : TypeId} {kv : α → Value} {w w' : World} {b n : Nat} {f : α → Option Int} (h : But b w.heap.size w w') (hm : MapI w K kv b n f) : CK w w' :=
  fun k cur t z hk => (h.2.2.2.2 k (Array.getElem?_eq_some_iff.1 hk).1 (hm.ne hk)).trans hk
theorem CK.of_below {w w' : World} (h : Below w.heap.size w w') : CK w w' := fun k cur t z hk => (h.block k (Array.getElem?_eq_some_iff.1 hk).1).trans hk
theorem CK.trans {w w' w'' : World} (h : CK w w') (h' : CK w' w'') : CK w w'' := fun k cur t z hk => h' k cur t z (h k cur t z hk)
theorem WPR.ck {w w' : World} {lo c : Nat} {a : Option Addr} {l : List ByteArray} (h : WPR w lo a c l) (hk : CK w w') : WPR w' lo a c l := by
  rcases h with h | ⟨g, cur, h1, h2, h3, h4⟩
  · exact .inl h
  · exact .inr ⟨g, cur, h1, h2, hk _ _ _ _ h3, h4⟩
theorem MPR.ck {w w' : World} {lo c : Nat} {a : Option Addr} {l : List Mg} (h : MPR w lo a c l) (hk : CK w w') : MPR w' lo a c l := by
  rcases h with h | ⟨g, cur, h1, h2, h3, h4⟩
  · exact .inl h
  · exact .inr ⟨g, cur, h1, h2, hk _ _ _ _ h3, h4⟩
theorem SPRc.ck {w w' : World} {lo c : Nat} {a : Option Addr} {l : List Sp} (h : SPRc w lo a c l) (hk : CK w w') : SPRc w' lo a c l := by
  rcases h with h | ⟨g, cur, h1, h2, h3, h4⟩
  · exact .inl h
  · exact .inr ⟨g, cur, h1, h2, hk _ _ _ _ h3, h4⟩
theorem SPR.ck {w w' : World} {lo : Nat} {a : Option Addr} {l : List Sp} (h : SPR w lo a l) (hk : CK w w') : SPR w' lo a l := by
  rcases h with h | ⟨g, cur, h1, h2, h3, h4⟩
  · exact .inl h
  · exact .inr ⟨g, cur, h1, h2, hk _ _ _ _ h3, h4⟩
theorem OwnD.ck {w w' : World} {lo : Nat} {a0 : Option Addr} {c0 : Nat} {a1 : Option Addr} {c1 : Nat} {a2 : Option Addr} {c2 : Nat} {a3 : Option Addr} {c3 : Nat} {a4 : Option Addr} {c4 : Nat} {ws : List ByteArray} {ms : List Mg} {A B C : List Sp} (h : OwnD w lo a0 c0 a1 c1 a2 c2 a3 c3 a4 c4 ws ms A B C) (hk : CK w w') : OwnD w' lo a0 c0 a1 c1 a2 c2 a3 c3 a4 c4 ws ms A B C := by
  obtain ⟨h1, h2, s3, s4, e1, e2, p1, p2, p3, p4, p5⟩ := h
  exact ⟨⟨h1.le, h1.cap, h1.row.ck hk⟩, ⟨h2.le, h2.cap, h2.row.ck hk⟩, s3, s4, e1, e2, ⟨p1.le, p1.cap, p1.row.ck hk⟩, p2, ⟨p3.le, p3.cap, p3.row.ck hk⟩, p4, ⟨p5.le, p5.cap, p5.row.ck hk⟩⟩
theorem OwnT.ck {w w' : World} {lo g : Nat} {A B C : List Sp} (h : OwnT w lo g A B C) (hk : CK w w') : OwnT w' lo g A B C := by
  obtain ⟨ad, cp, h1, h2, h3⟩ := h
  exact ⟨ad, cp, h1, hk _ _ _ _ h2, fun j hj => ⟨(h3 j hj).1, (h3 j hj).2.1, (h3 j hj).2.2.ck hk⟩⟩
theorem cell_ck {w w' : World} {p : Addr} {v : Value} (h : w.cell? p = some v) (hk : CK w w') : w'.cell? p = some v := by
  rw [← h]
  refine World.cell?_of_block ?_
  unfold World.cell? at h
  cases hb : w.heap[p.block]? with
  | none => rw [hb] at h; cases h
  | some o =>
    cases o with
    | cells cur t z => exact hk _ _ _ _ hb
    | _ => rw [hb] at h; cases h
theorem WSP.ck {w w' : World} {a : Option Addr} {l : List ByteArray} (h : WSP w a l) (hk : CK w w') : WSP w' a l := by
  rcases h with h | ⟨b, off, rfl, hc⟩
  · exact .inl h
  · exact .inr ⟨b, off, rfl, fun i x hx => cell_ck (hc i x hx) hk⟩
theorem MSP.ck {w w' : World} {a : Option Addr} {l : List Mg} (h : MSP w a l) (hk : CK w w') : MSP w' a l := by
  rcases h with h | ⟨b, off, rfl, hc⟩
  · exact .inl h
  · exact .inr ⟨b, off, rfl, fun i x hx => ⟨cell_ck (hc i x hx).1 hk, cell_ck (hc i x hx).2.1 hk, cell_ck (hc i x hx).2.2 hk⟩⟩
end Go.Proofs.YtjbdhakogbolkaaDoor
end
section
/- model.Model.rankMerges: its contract. -/
namespace Go.Proofs.YtjbdhakogbolkaaDoor
open Go.RowKit Go.Sort Go.Joins Go.Maps Go.WideMaps
set_option linter.unusedVariables false
/-- The key of a pair. -/
def pairV (p : Int × Int) : Value := .agg #[.int .i64 p.1, .int .i64 p.2]
theorem pairV_inj (x y : Int × Int) (h : pairV x = pairV y) : x = y := by
  unfold pairV at h
  simp at h
  exact Prod.ext h.1 h.2
theorem pairArr : ArrKey Tryd.prog 99 3 2 := ⟨Tryd.underlying99, by kernel_rfl, by kernel_rfl, by kernel_rfl⟩
theorem lawP : Keyed Tryd.prog 99 := Keyed.of_law pairArr.law
theorem keyP {l r : Int} (hl : W64 l) (hr : W64 r) : keyOf Tryd.prog 99 (pairV (l, r)) = some (.string (keyBytes [.int .i64 l, .int .i64 r])) :=
  keyOf_pair pairArr und3 ⟨_, rfl⟩ (WalkArith.wf_i64 hl) (WalkArith.wf_i64 hr)
/-- What the map of ranks holds. -/
def rankF (ms : List Mg) (p : Int × Int) : Option Int := (rankM ms p.1 p.2).map (fun k : Nat => (k : Int))
theorem rankF_nil : rankF [] = fun _ => none := rfl
theorem rankF_none {ms : List Mg} {k : Nat} {x : Mg} (h : (ms.take k).any (fun y => pairB y x.l x.r) = false) : rankF (ms.take k) (x.l, x.r) = none := by
  have : rankM (ms.take k) x.l x.r = none := by
    unfold rankM
    rw [List.findIdx?_eq_none_iff]
    intro y hy
    rw [List.any_eq_false] at h
    simpa using h y hy
  unfold rankF
  rw [this]; rfl
theorem pairB_iff {x : Mg} {l r : Int} : pairB x l r = true ↔ (x.l, x.r) = (l, r) := by
  unfold pairB
  simp
theorem rankF_step {ms : List Mg} {k : Nat} {x : Mg} (hx : ms[k]? = some x) (h : (ms.take k).any (fun y => pairB y x.l x.r) = false) : rankF (ms.take (k + 1)) = fun z => if z = (x.l, x.r) then some (k : Int) else rankF (ms.take k) z := by
  funext z
  have h0 := rankF_none h
  have hs := rankM_step ms k x hx z.1 z.2
  unfold rankF at h0 ⊢
  rw [hs]
  by_cases e : z = (x.l, x.r)
  · subst e
    have h1 : rankM (ms.take k) x.l x.r = none := by
      cases hr : rankM (ms.take k) x.l x.r with
      | none => rfl
      | some i => simp [hr] at h0
    simp only [h1]
    rw [if_pos (pairB_iff.2 rfl)]; simp
  · rw [if_neg e]
    cases hr : rankM (ms.take k) z.1 z.2 with
    | some i => rfl
    | none =>
      have : pairB x z.1 z.2 = false := by
        cases hp : pairB x z.1 z.2 with
        | false => rfl
        | true => exact absurd (pairB_iff.1 hp).symm e
      simp only [this]; rfl
theorem made_zero (ms : List Mg) (id : Int) : madeM ms 0 id = (decide (0 ≤ id) && decide (id < 256)) := by
  unfold madeM
  simp
theorem made_step {ms : List Mg} {k : Nat} {x : Mg} (hx : ms[k]? = some x) (h : 256 ≤ x.i) (id : Int) : madeM ms (k + 1) id = (id == x.i || madeM ms k id) := by
  unfold madeM
  rw [any_take_snoc hx]
  by_cases e : id = x.i
  · subst e
    simp [h]
  · have e1 : (id == x.i) = false := by simpa using e
    have e2 : (x.i == id) = false := by simpa using fun h => e h.symm
    rw [e1, e2]; simp
theorem badM_zero_any {ws : List ByteArray} {ms : List Mg} {k : Nat} {x : Mg} (hx : ms[k]? = some x) (h : badM ws ms k = 0) : (ms.take k).any (fun y => pairB y x.l x.r) = false := by
  unfold badM at h
  by_cases h0 : cutM ws ms k ≠ 0
  · rw [if_pos h0] at h; exact absurd h h0
  · rw [if_neg h0, hx] at h
    simp only at h
    cases ha : (ms.take k).any (fun y => pairB y x.l x.r) with
    | false => rfl
    | true => rw [ha, if_pos rfl] at h; cases h
theorem infoBool : (Tryd.prog.info? 4).map (fun i => (i.zero, i.size, i.bytes)) = some (some (.bool false), 1, 1) := by kernel_rfl
theorem made_new (n : Nat) (hn : n ≤ 4611686018427387904) (w : World) : MadeAt (w.alloc (.cells (Array.replicate n (Value.bool false)) 4)) w.heap.size n (fun _ => false) :=
  ⟨⟨_, heap_alloc_new _ _, by simp, fun i hi => by simp [hi]⟩, fun _ _ => rfl⟩
set_option maxRecDepth 100000 in
set_option maxHeartbeats 4000000 in
theorem rankMerges_any (g gr cw cm : Nat) (aw am : Option Addr) (ws : List ByteArray) (ms : List Mg) (w : World) (hn : ws.length ≤ 4096) (hl : ms.length ≤ 4096) (hwf : MWf ms) (hz6 : ∀ (i : Nat) (x : ByteArray), ws[i]? = some x → x.size ≤ 256) (hRgt : WRgt ws)
    (d0 : w.cell? ⟨g, 0, none⟩ = some (.slice aw ws.length cw)) (d1 : w.cell? ⟨g, 1, none⟩ = some (.slice am ms.length cm)) (d6 : w.cell? ⟨g, 6, none⟩ = some (.map (some gr)))
    (hW : WSP w aw ws) (hM : MSP w am ms) (hR : MapI w 99 pairV gr 0 (fun _ => none)) :
    Calls Tryd.prog 46 #[.pointer (some ⟨g, 0, none⟩)] w fun e w' => e = .returned (.tuple #[.int .i64 ((firstBad (badM ws ms) ms.length).2 : Nat), .int .i64 ((firstBad (badM ws ms) ms.length).1 : Nat)]) ∧ But gr w.heap.size w w' ∧ ((firstBad (badM ws ms) ms.length).1 = 0 → MapI w' 99 pairV gr ms.length (rankF ms)) := by
  have hgk := World.block_lt_of_cell? w _ d0
  have hgrk := hR.lt
  rw [← first_cut hRgt]
  obtain ⟨E, hE⟩ : ∃ E, E = firstBad (cutM ws ms) ms.length := ⟨_, rfl⟩
  have HE : Hid (E = firstBad (cutM ws ms) ms.length) := hE
  rw [← hE]
  obtain ⟨i0, hi, hz0, hz1, hz2⟩ := info_parts infoBool
  have hmk : ∀ u : World, (Instr.makeSlice 136 (.int .i64 (256 + (ws.length : Int))) (.int .i64 (256 + (ws.length : Int)))).run Tryd.prog u =
      .ok (.slice (some ⟨u.heap.size, 0, none⟩) (256 + ws.length) (256 + ws.length)) (u.alloc (.cells (Array.replicate (256 + ws.length) (Value.bool false)) 4)) := fun u => by
    have h := run_make (P := Tryd.prog) u 136 4 i0 _ Tryd.underlying136 hi hz0 .i64 .i64 (256 + (ws.length : Int)) (256 + (ws.length : Int)) (by omega) (Int.le_refl _) (by rw [hz2]; omega) (by omega)
    have e : (256 + (ws.length : Int)).toNat = 256 + ws.length := by omega
    rw [e, hz1] at h
    rw [h]
    congr 3
    simp only [madeCells, Value.cells]
    exact Array.ext (by simp) fun i h1 h2 => by simp [Nat.mod_one]
  have hS := fun wx hx => size_any g ws.length cw aw wx (by omega) hx
  have hb0 := box_below w (.cells (Array.replicate (256 + ws.length) (Value.bool false)) 4)
  have hM0 := made_new (256 + ws.length) (by omega) w
  have HCK : ∀ wr, But gr w.heap.size w wr → CK w wr := fun wr h => h.ck hR
  have HW0 : Hid (WSP w aw ws) := hW
  have HM0 : Hid (MSP w am ms) := hM
  have H0 : Hid (w.cell? ⟨g, 0, none⟩ = some (.slice aw ws.length cw)) := d0
  have H6 : Hid (w.cell? ⟨g, 6, none⟩ = some (.map (some gr))) := d6
  clear hE hi hz0 hz1 hz2
  go_enter Tryd.func46, Tryd.ntmps46
  go_wp2_with fail
  refine (hS _ d0).mono ?_
  rintro e w' ⟨rfl, he⟩
  obtain rfl := he.symm
  go_wp2_with fail
  obtain ⟨Y, hY⟩ : ∃ Y, Y = w.alloc (.cells (Array.replicate (256 + ws.length) (Value.bool false)) 4) := ⟨_, rfl⟩
  rw [← hY] at hb0 hM0 ⊢
  have hYs : w.heap.size + 1 = Y.heap.size := by rw [hY]; simp
  obtain ⟨z, hz⟩ : ∃ z, z = w.heap.size := ⟨_, rfl⟩
  have HZ : Hid (z = w.heap.size) := hz
  have d0 := (hb0.cell (p := ⟨g, 0, none⟩) hgk).trans d0
  have d1 := (hb0.cell (p := ⟨g, 1, none⟩) hgk).trans d1
  have d6 := (hb0.cell (p := ⟨g, 6, none⟩) hgk).trans d6
  have hW := hW.below hb0
  have hM := hM.below hb0
  have hR := hR.below hb0 hgrk
  rw [← hz] at hM0 hYs HCK ⊢
  have hgz : g < z := by rw [hz]; exact hgk
  have hgrz : gr < z := by rw [hz]; exact hgrk
  clear hY hz hgk hgrk hmk
  have hBt0 : But gr z w Y := by rw [HZ.out]; exact But.of_below hb0
  go_loopw [12] (fun i wr => ∃ k : Nat, k ≤ 256 ∧ i = .int .i64 k ∧ MadeAt wr z (256 + ws.length) (fun id => decide (0 ≤ id) && decide (id < (k : Int))) ∧ Below z Y wr) (fun i _ => 256 - (intOf i).toNat)
  case atStart =>
    refine ⟨0, Nat.zero_le _, rfl, hM0.congr fun id => ?_, Below.refl _ _⟩
    by_cases h : 0 ≤ id
    · rw [decide_eq_false (show ¬ id < ((0 : Nat) : Int) by omega), Bool.and_false]
    · rw [decide_eq_false h]; rfl
  case round =>
    obtain ⟨k, hk, rfl, hMk, hbr⟩ := hrel
    by_cases hlt : k < 256
    · have g0 : decide ((k : Int) < 256) = true := decide_eq_true (by omega)
      obtain ⟨cur, hc, hs, hf⟩ := hMk.row
      have q0 := cell_of_block hc k
      rw [hf k (by omega)] at q0
      have f0 := fun j => unfrozen_of_block hc j
      have HMk : Hid (MadeAt wr z (256 + ws.length) (fun id => decide (0 ≤ id) && decide (id < (k : Int)))) := hMk
      have HBR : Hid (Below z Y wr) := hbr
      clear hc hs hf hMk hbr hM0
      go_wp2_with fail
      refine ⟨⟨k + 1, by omega, by go_num, (HMk.out.set (by omega)).congr fun id => ?_, HBR.out.setCell (p := ⟨z, k, none⟩) (Nat.le_refl _) _⟩, by simp only [intOf]; omega⟩
      by_cases e : id = (k : Int)
      · subst e
        simp
        omega
      · have : (id == (k : Int)) = false := by simpa using e
        rw [this, Bool.false_or]
        congr 1
        rw [decide_eq_decide]
        omega
    · have hk6 : k = 256 := by omega
      subst hk6
      have e0 := (hbr.cell (p := ⟨g, 0, none⟩) hgz).trans d0
      have e1 := (hbr.cell (p := ⟨g, 1, none⟩) hgz).trans d1
      have hMk' : MadeAt wr z (256 + ws.length) (madeM ms 0) := hMk.congr fun id => made_zero ms id
      have hBt1 := hBt0.trans (But.of_below hbr)
      have hRr := hR.below hbr hgrz
      have HD : Hid (Below z Y wr) := hbr
      have hsz1 : z < wr.heap.size := hMk'.lt
      clear hM0 hBt0 hMk hbr
      go_wp2_with fail
      obtain ⟨V, hV⟩ : ∃ V, V = wr := ⟨_, rfl⟩
      obtain rfl := hV.symm
      clear hV e0 e1
      simp only [show ((256 : Nat) : Int) = 256 from rfl]
      go_loopw [25] (fun i wr => ∃ k : Nat, k ≤ ms.length ∧ i = .int .i64 k ∧ (∀ j, j < k → cutM ws ms j = 0) ∧ MadeAt wr z (256 + ws.length) (madeM ms k) ∧ MapI wr 99 pairV gr k (rankF (ms.take k)) ∧ But gr z w wr ∧ z < wr.heap.size) (fun i _ => ms.length - (intOf i).toNat)
      case atStart => exact ⟨0, Nat.zero_le _, rfl, fun j hj => absurd hj (Nat.not_lt_zero _), hMk', hRr, hBt1, hsz1⟩
      case round =>
        clear hMk' hRr hBt1 hsz1
        obtain ⟨k, hk, rfl, hok, hMk, hRk, hBt, hsz⟩ := hrel
        have HOK : Hid (∀ j, j < k → cutM ws ms j = 0) := hok
        have HB : Hid (But gr z w wr) := hBt
        clear hok
        by_cases hlt : k < ms.length
        · obtain ⟨x, hx⟩ : ∃ x, ms[k]? = some x := ⟨_, List.getElem?_eq_getElem hlt⟩
          have g0 : decide ((k : Int) < (ms.length : Int)) = true := decide_eq_true (by omega)
          have HX : Hid (ms[k]? = some x) := hx
          have hwx := hwf k x hx
          have ck := HCK wr hBt
          have hD := box_below wr (.cells #[.int .i64 x.l, .int .i64 x.r, .int .i64 x.i] 24)
          have hN := heap_alloc_new wr (.cells #[.int .i64 x.l, .int .i64 x.r, .int .i64 x.i] 24)
          have e0 := cell_ck (cell_ck H0.out ck) (CK.of_below hD)
          have hW1 := (HW0.out.ck ck).below hD
          have hM1 := hMk.below hD hsz
          have hR1 := hRk.below hD hRk.lt
          have HWM := wrongMerge_any g z cw k aw ws ms x _ (by omega) hz6 hx e0 hW1 hM1
          obtain ⟨bm, off, hae, hc0, hc1, hc2⟩ := (HM0.out.ck ck).at_ hx
          subst hae
          have n0 := cell_of_block hN 0
          have n1 := cell_of_block hN 1
          have n2 := cell_of_block hN 2
          have HN : Hid ((wr.alloc (.cells #[.int .i64 x.l, .int .i64 x.r, .int .i64 x.i] 24)).heap[wr.heap.size]? = some (.cells #[.int .i64 x.l, .int .i64 x.r, .int .i64 x.i] 24 (0, 0))) := hN
          have HR1 : Hid (MapI (wr.alloc (.cells #[.int .i64 x.l, .int .i64 x.r, .int .i64 x.i] 24)) 99 pairV gr k (rankF (ms.take k))) := hR1
          have HM1 : Hid (MadeAt (wr.alloc (.cells #[.int .i64 x.l, .int .i64 x.r, .int .i64 x.i] 24)) z (256 + ws.length) (madeM ms k)) := hM1
          have hgk : gr < wr.heap.size := hRk.lt
          have hB1 := hBt.trans (But.of_below (hD.mono (by have := hBt.size; rw [HZ.out]; exact this)))
          clear hx hN hM1 hW1 hR1 hMk hRk hBt ck hD
          go_wp2_with fail
          refine HWM.mono ?_
          rintro e w1 ⟨rfl, hb1⟩
          obtain ⟨xb, hxb⟩ : ∃ xb, xb = wr.heap.size := ⟨_, rfl⟩
          have hN := (hb1.block _ (by simp)).trans HN.out
          have hM1 := HM1.out.below hb1 (by simp; omega)
          have hR1 := HR1.out.below hb1 (by simp; omega)
          have hB2 := hB1.trans (But.of_below (hb1.mono (by have := hB1.size; rw [HZ.out]; exact this)))
          rw [← hxb] at hN ⊢
          have hs1 : xb < w1.heap.size := (Array.getElem?_eq_some_iff.1 hN).1
          have hzx : z < xb := by rw [hxb]; exact hsz
          have n0 := cell_of_block hN 0
          have n1 := cell_of_block hN 1
          have n2 := cell_of_block hN 2
          have HN1 : Hid (w1.heap[xb]? = some (.cells #[.int .i64 x.l, .int .i64 x.r, .int .i64 x.i] 24 (0, 0))) := hN
          obtain ⟨c, hc⟩ : ∃ c, c = cutM ws ms k := ⟨_, rfl⟩
          have HC : Hid (c = cutM ws ms k) := hc
          rw [← hc]
          clear hN HN HM1 HR1 hB1 hb1 hxb hc hc0 hc1 hc2 HWM
          by_cases h0 : c = 0
          · subst h0
            obtain ⟨a1, a2, -, -, -, -⟩ := cutM_zero HX.out HC.out.symm
            obtain ⟨q, hq⟩ : ∃ q : Nat, x.i = q := ⟨x.i.toNat, by omega⟩
            have hql : q < 256 + ws.length := by omega
            have hno := badM_zero_any HX.out ((badM_cut (ws := ws) hRgt HOK.out).symm.trans HC.out.symm)
            have hFx := rankF_none hno
            clear n2
            have n2 : w1.cell? ⟨xb, 2, none⟩ = some (.int .i64 (q : Int)) := by rw [cell_of_block HN1.out 2, ← hq]; rfl
            have hMs := (hM1.set hql).congr (f' := madeM ms (k + 1)) (fun id => by rw [made_step HX.out a1, hq])
            obtain ⟨cur, hcr, -, hfr⟩ := hM1.row
            have q0 := cell_of_block hcr q
            rw [hfr q hql] at q0
            have f0 := fun j => unfrozen_of_block hcr j
            have hkey := keyP hwx.1 hwx.2.1
            have hkl : k < maxLen := by unfold maxLen; omega
            have hwfk := wf_nat k (by omega)
            have HF : Hid (rankF (ms.take (k + 1)) = fun z => if z = (x.l, x.r) then some (k : Int) else rankF (ms.take k) z) := rankF_step HX.out hno
            clear hM1 hcr hfr hno hq a1 a2
            go_wp2_with fail
            obtain ⟨W2, hW2⟩ : ∃ W2, W2 = w1.setCell ⟨z, q, none⟩ (.bool true) := ⟨_, rfl⟩
            have hB3 := hB2.above (p := ⟨z, q, none⟩) (Nat.le_refl z) (.bool true)
            have hN2 := (Below.heap_setCell w1 ⟨z, q, none⟩ (.bool true) xb (by show xb ≠ z; omega)).trans HN1.out
            have hR2 := hR1.kept (Below.heap_setCell w1 ⟨z, q, none⟩ (.bool true) gr (by show gr ≠ z; omega))
            rw [← hW2] at hMs hB3 hN2 hR2 ⊢
            have e6 := cell_ck H6.out (HCK _ hB3)
            have n0 := cell_of_block hN2 0
            have n1 := cell_of_block hN2 1
            have hs2 : z < W2.heap.size := hMs.lt
            clear n2 f0 q0 hW2 hN2 hR1 hB2 HN1
            refine wp_region_quiet_tail (C := fun w' => ∃ n, w' = W2.drewN n) 10 (by kernel_rfl) (by kernel_rfl) ⟨1, rfl⟩ ?_
            simp only [List.take_succ_cons, List.take_zero, List.drop_succ_cons, List.drop_zero]
            repeat (go_big_quiet_step (fail))
            refine wpQuiet_nil ?_
            intro _ hw'
            obtain ⟨nq, hw''⟩ := hw'
            subst hw''
            have hbd := below_drewN (Below.refl W2.heap.size W2) nq
            have hR3 := hR2.below hbd hR2.lt
            have hM3 := hMs.below hbd hs2
            have hB4 := hB3.trans (But.of_below (hbd.mono (by omega)))
            have hs4 : z < (W2.drewN nq).heap.size := hM3.lt
            clear hR2 hMs hB3 e6 n0 n1 hbd
            go_wp2_with (first | (at_mapUpdate; refine wpList_store _ rfl _ _ _ 94 rfl lawP pairV_inj Tryd.underlying94 rfl hR3 hkl (x.l, x.r) _ (k : Int) rfl rfl hkey hFx hwfk ?_; intro w3 hR5 hg5) | fail)
            go_roundw
            case measure => simp only [intOf]; omega
            case rel =>
            refine ⟨k + 1, by omega, by go_num, fun j hj => ?_, hM3.kept (hg5.block z hs4 (fun e => ?_)), ?_, hB4.grown hg5 (by omega), ?_⟩
            · by_cases e : j = k
              · rw [e]; exact HC.out.symm
              · exact HOK.out j (by omega)
            · have := Option.some.inj e
              omega
            · rw [HF.out]; exact hR5
            · have := hg5.size
              omega
          · have hne : ((c : Int) == 0) = false := by simp; omega
            have hbad : firstBad (cutM ws ms) ms.length = (c, k) := by
              rw [firstBad_some hlt HOK.out (by rw [← HC.out]; exact h0), ← HC.out]
            have HE2 : Hid (E = (c, k)) := HE.out.trans hbad
            clear hM1 hR1 n0 n1 n2 hbad
            go_wp2_with fail
            exact bodyPost_ret (v := .tuple #[.int .i64 (k : Int), .int .i64 (c : Int)]) (by simp [results, Tryd.results46, go_sem]) rfl ⟨by rw [HE2.out], HZ.out ▸ hB2, fun e => absurd (by rw [HE2.out] at e; exact e) h0⟩
        · have hkn : k = ms.length := by omega
          subst hkn
          have HE2 : Hid (E = (0, 0)) := HE.out.trans (firstBad_none HOK.out)
          rw [List.take_length] at hRk
          clear hMk hBt
          have HRk := fun (_ : E.1 = 0) => hRk
          clear hRk
          go_wp2_with fail
          exact bodyPost_ret (v := .tuple #[.int .i64 0, .int .i64 0]) (by simp [results, Tryd.results46, go_sem]) rfl ⟨by rw [HE2.out]; rfl, HZ.out ▸ HB.out, HRk⟩
end Go.Proofs.YtjbdhakogbolkaaDoor
end
section
/- model.wrongNumbers, longest, wrongWord: their contracts. -/
namespace Go.Proofs.YtjbdhakogbolkaaDoor
open Go.RowKit Go.Sort Go.Joins Go.Maps Go.WideMaps
def numF (n m : Nat) : Nat × Nat × Nat := if 4096 < m then (4, 5, 4096) else if n ≠ m then (4, 4, min n m) else (0, 0, 0)
/-- A refusal. -/
def f3V (p : Nat × Nat × Nat) : Value := .agg #[.int .i64 (p.1 : Nat), .int .i64 (p.2.1 : Nat), .int .i64 (p.2.2 : Nat)]
set_option maxRecDepth 100000 in
set_option maxHeartbeats 4000000 in
theorem numbers_any (aw am a b c : Option Addr) (nw cw nm cm na ca nb cb nc cc : Nat) (w : World) :
    Calls Tryd.prog 41 #[.agg #[.slice aw nw cw, .slice am nm cm, .slice a na ca, .slice b nb cb, .slice c nc cc]] w fun e w' => e = .returned (f3V (numF nw nm)) ∧ Below w.heap.size w w' := by
  have hD := DBox.new w (.slice aw nw cw) (.slice am nm cm) (.slice a na ca) (.slice b nb cb) (.slice c nc cc)
  have hb := box_below w (.cells #[.slice aw nw cw, .slice am nm cm, .slice a na ca, .slice b nb cb, .slice c nc cc] 30)
  have hD2 := hD.below (box_below (w.alloc (.cells #[.slice aw nw cw, .slice am nm cm, .slice a na ca, .slice b nb cb, .slice c nc cc] 30)) (.cells #[.int .i64 0, .int .i64 0, .int .i64 0] 68)) hD.lt
  clear hD
  have x0 := hD2.c0
  have x1 := hD2.c1
  clear hD2
  obtain ⟨E, hE⟩ : ∃ E, E = numF nw nm := ⟨_, rfl⟩
  have HE : Hid (E = numF nw nm) := hE
  rw [← hE]
  clear hE
  obtain ⟨q, hq⟩ : ∃ q, q = min nw nm := ⟨_, rfl⟩
  have HQ : Hid (q = min nw nm) := hq
  clear hq
  by_cases h1 : 4096 < nm
  · have g1 : decide ((4096 : Int) < (nm : Int)) = true := decide_eq_true (by omega)
    have HE2 : Hid (E = (4, 5, 4096)) := by rw [HE.out]; unfold numF; rw [if_pos h1]; exact rfl
    go_enter Tryd.func41, Tryd.ntmps41
    go_wp2_with fail
    exact bodyPost_ret (v := .agg #[.int .i64 4, .int .i64 5, .int .i64 4096]) (by simp [results, Tryd.results41, go_sem]) rfl ⟨by rw [HE2.out]; rfl, hb.alloc hb.size _⟩
  · have g1 : decide ((4096 : Int) < (nm : Int)) = false := decide_eq_false (by omega)
    by_cases h2 : nw = nm
    · subst h2
      have HE2 : Hid (E = (0, 0, 0)) := by rw [HE.out]; unfold numF; rw [if_neg h1, if_neg (by simp)]; exact rfl
      go_enter Tryd.func41, Tryd.ntmps41
      go_wp2_with fail
      exact bodyPost_ret (v := .agg #[.int .i64 0, .int .i64 0, .int .i64 0]) (by simp [results, Tryd.results41, go_sem]) rfl ⟨by rw [HE2.out]; rfl, hb.alloc hb.size _⟩
    · have g2 : ((nw : Int) == (nm : Int)) = false := by simp; omega
      have HE2 : Hid (E = (4, 4, q)) := by rw [HE.out, HQ.out]; unfold numF; rw [if_neg h1, if_pos h2]; exact rfl
      go_enter Tryd.func41, Tryd.ntmps41
      go_wp2_with fail
      all_goals
        rename_i hcmp
      · have e : (nm : Int) = (q : Int) := by rw [HQ.out]; omega
        exact bodyPost_ret (v := .agg #[.int .i64 4, .int .i64 4, .int .i64 (nm : Int)]) (by simp [results, Tryd.results41, go_sem]) rfl ⟨by rw [HE2.out, e]; rfl, hb.alloc hb.size _⟩
      · have e : (nw : Int) = (q : Int) := by rw [HQ.out]; omega
        exact bodyPost_ret (v := .agg #[.int .i64 4, .int .i64 4, .int .i64 (nw : Int)]) (by simp [results, Tryd.results41, go_sem]) rfl ⟨by rw [HE2.out, e]; rfl, hb.alloc hb.size _⟩
set_option maxRecDepth 100000 in
set_option maxHeartbeats 4000000 in
theorem longest_any (aw : Option Addr) (cw : Nat) (ws : List ByteArray) (w : World) (hn : ws.length ≤ 4611686018427387904) (hW : WSP w aw ws) :
    Calls Tryd.prog 45 #[.slice aw ws.length cw] w fun e w' => e = .returned (.int .i64 (longM ws : Nat)) ∧ w' = w := by
  go_enter Tryd.func45, Tryd.ntmps45
  go_wp2_with fail
  go_loopw [3, 8] (fun m i wr => ∃ k : Nat, k ≤ ws.length ∧ i = .int .i64 k ∧ m = .int .i64 (longM (ws.take k) : Nat) ∧ wr = w) (fun _ i _ => ws.length - (intOf i).toNat)
  case atStart => exact ⟨0, Nat.zero_le _, rfl, by simp [longM], rfl⟩
  case round =>
    obtain ⟨k, hk, rfl, rfl, he⟩ := hrel
    obtain rfl := he.symm
    by_cases hlt : k < ws.length
    · obtain ⟨x, hx⟩ : ∃ x, ws[k]? = some x := ⟨_, List.getElem?_eq_getElem hlt⟩
      have hs := longM_step ws k x hx
      have g0 : decide ((k : Int) < (ws.length : Int)) = true := decide_eq_true (by omega)
      obtain ⟨L, hL⟩ : ∃ L, L = longM (ws.take k) := ⟨_, rfl⟩
      rw [← hL] at hs ⊢
      obtain ⟨m, hm⟩ : ∃ m : Nat, m = if L < x.size then x.size else L := ⟨_, rfl⟩
      have HS : Hid (longM (ws.take (k + 1)) = m) := by rw [hs, ← hm]; exact rfl
      have HM : Hid (m = if L < x.size then x.size else L) := hm
      obtain ⟨bw, off, rfl, hc⟩ := hW.at_ hx
      clear hs hL hW hm hx
      go_wp2_with fail
      refine ⟨⟨k + 1, by omega, by go_num, ?_, trivial⟩, by simp only [intOf]; omega⟩
      rw [HS.out, HM.out]
      split <;> rfl
    · have hkn : k = ws.length := by omega
      subst hkn
      rw [List.take_length]
      clear hW
      go_wp2_with fail
      go_ret
      exact ⟨rfl, rfl⟩
/-- What the map of rows holds behind k words. -/
def rowsF (ws : List ByteArray) : Nat → ByteArray → Option Int
  | 0 => fun _ => none
  | k + 1 => fun y => if ws[k]? = some y then some (k : Int) else rowsF ws k y
theorem rowsF_some (ws : List ByteArray) (k : Nat) (y : ByteArray) (hk : k ≤ ws.length) : (rowsF ws k y).isSome = (ws.take k).any (fun v => decide (v = y)) := by
  induction k with
  | zero => simp [rowsF]
  | succ k ih =>
    have hx : ws[k]? = some ws[k] := List.getElem?_eq_getElem (by omega)
    rw [any_take_snoc hx, ← ih (by omega)]
    show (if ws[k]? = some y then some (k : Int) else rowsF ws k y).isSome = _
    rw [hx]
    by_cases h : ws[k] = y
    · simp [h]
    · rw [if_neg (fun e => h (Option.some.inj e))]
      simp [h]
theorem rowsF_step {ws : List ByteArray} {k : Nat} {x : ByteArray} (hx : ws[k]? = some x) : rowsF ws (k + 1) = fun y => if y = x then some (k : Int) else rowsF ws k y := by
  funext y
  show (if ws[k]? = some y then _ else _) = _
  rw [hx]
  by_cases h : y = x
  · subst h; simp
  · rw [if_neg (fun e => h (Option.some.inj e).symm), if_neg h]
theorem lawS : Keyed Tryd.prog 9 := string_keyed Tryd.underlying9
theorem strV_inj (x y : ByteArray) (h : Value.string x = Value.string y) : x = y := by cases h; rfl
set_option maxRecDepth 100000 in
set_option maxHeartbeats 4000000 in
theorem wrongWord_any (aw : Option Addr) (cw : Nat) (ws : List ByteArray) (w : World) (hn : ws.length ≤ 4611686018427387904) (hW : WSP w aw ws) :
    Calls Tryd.prog 43 #[.slice aw ws.length cw] w fun e w' => e = .returned (.tuple #[.int .i64 ((firstBad (badW ws) ws.length).2 : Nat), .int .i64 ((firstBad (badW ws) ws.length).1 : Nat)]) ∧ Below w.heap.size w w' := by
  obtain ⟨E, hE⟩ : ∃ E, E = firstBad (badW ws) ws.length := ⟨_, rfl⟩
  have HE : Hid (E = firstBad (badW ws) ws.length) := hE
  rw [← hE]
  clear hE
  have hmm := @run_makeMap Tryd.prog
  have hM0 := MapI.made w 9 Value.string
  have hb0 := box_below w (.map #[] 0)
  go_enter Tryd.func43, Tryd.ntmps43
  go_wp2_with fail
  obtain ⟨Y, hY⟩ : ∃ Y, Y = w.alloc (.map #[] 0) := ⟨_, rfl⟩
  rw [← hY] at hb0 hM0 ⊢
  clear hY hmm
  obtain ⟨z, hz⟩ : ∃ z, z = w.heap.size := ⟨_, rfl⟩
  have HZ : Hid (z = w.heap.size) := hz
  rw [← hz] at hM0 ⊢
  have HW0 : Hid (WSP w aw ws) := hW
  clear hz hW
  go_loopw [12] (fun i wr => ∃ k : Nat, k ≤ ws.length ∧ i = .int .i64 k ∧ (∀ j, j < k → badW ws j = 0) ∧ MapI wr 9 Value.string z k (rowsF ws k) ∧ Below w.heap.size w wr) (fun i _ => ws.length - (intOf i).toNat)
  case atStart => exact ⟨0, Nat.zero_le _, rfl, fun j hj => absurd hj (Nat.not_lt_zero _), hM0, hb0⟩
  case round =>
    clear hM0 hb0
    obtain ⟨k, hk, rfl, hok, hM, hbr⟩ := hrel
    have HOK : Hid (∀ j, j < k → badW ws j = 0) := hok
    have HB : Hid (Below w.heap.size w wr) := hbr
    clear hok
    by_cases hlt : k < ws.length
    · obtain ⟨x, hx⟩ : ∃ x, ws[k]? = some x := ⟨_, List.getElem?_eq_getElem hlt⟩
      have g0 : decide ((k : Int) < (ws.length : Int)) = true := decide_eq_true (by omega)
      have HX : Hid (ws[k]? = some x) := hx
      obtain ⟨bw, off, rfl, hc⟩ := (HW0.out.below hbr).at_ hx
      clear hx hbr
      by_cases hs : x.size < 2 ∨ 256 < x.size
      · have hbad : firstBad (badW ws) ws.length = (21, k) := by
          have := badW_size HX.out hs
          rw [firstBad_some hlt HOK.out (by rw [this]; decide), this]
        have HBD : Hid (firstBad (badW ws) ws.length = (21, k)) := hbad
        have hp : (∃ _ : decide ((x.size : Int) < 2) = false, decide ((256 : Int) < (x.size : Int)) = true) ∨ decide ((x.size : Int) < 2) = true := by
          by_cases h2 : x.size < 2
          · exact .inr (decide_eq_true (by omega))
          · exact .inl ⟨decide_eq_false (by omega), decide_eq_true (by omega)⟩
        clear hbad hs hM
        rcases hp with ⟨g1, g2⟩ | g1
        all_goals
          go_wp2_with fail
          exact bodyPost_ret (v := .tuple #[.int .i64 (k : Int), .int .i64 21]) (by simp [results, Tryd.results43, go_sem]) rfl ⟨by rw [HE.out, HBD.out]; rfl, HB.out⟩
      · have g1 : decide ((x.size : Int) < 2) = false := decide_eq_false (by omega)
        have g2 : decide ((256 : Int) < (x.size : Int)) = false := decide_eq_false (by omega)
        have HS : Hid (¬ (x.size < 2 ∨ 256 < x.size)) := hs
        obtain ⟨F, hF⟩ : ∃ F, F = rowsF ws k := ⟨_, rfl⟩
        have HF : Hid (F = rowsF ws k) := hF
        rw [← hF] at hM
        have hkey : keyOf Tryd.prog 9 (.string x) = some (.string x.data.toList) := Go.WideMaps.keyOf_string_mk Tryd.underlying9 (by unfold maxLen; omega)
        have hany := rowsF_some ws k x hk
        rw [← hF] at hany
        clear hs hF
        cases hFx : F x with
        | some q =>
          have HFx : Hid ((ws.take k).any (fun v => decide (v = x)) = true) := by rw [hFx] at hany; exact hany.symm
          have hbad : firstBad (badW ws) ws.length = (22, k) := by
            have := badW_twice HX.out HS.out HFx.out
            rw [firstBad_some hlt HOK.out (by rw [this]; decide), this]
          have HBD : Hid (firstBad (badW ws) ws.length = (22, k)) := hbad
          clear hbad hany
          go_wp2_with (first | (at_lookup; refine wpList_look _ rfl _ _ 132 rfl lawS Tryd.underlying132 rfl hM x _ rfl hkey ?_; simp only [hFx, Option.getD_some, Option.isSome_some]) | fail)
          exact bodyPost_ret (v := .tuple #[.int .i64 (k : Int), .int .i64 22]) (by simp [results, Tryd.results43, go_sem]) rfl ⟨by rw [HE.out, HBD.out]; rfl, HB.out⟩
        | none =>
          have HFx : Hid ((ws.take k).any (fun v => decide (v = x)) = false) := by rw [hFx] at hany; exact hany.symm
          have HOK1 : Hid (badW ws k = 0) := badW_ok HX.out HS.out HFx.out
          have hwf := wf_nat k (by omega)
          have hkl : k < maxLen := by unfold maxLen; omega
          clear hany
          go_wp2_with (first | (at_lookup; refine wpList_look _ rfl _ _ 132 rfl lawS Tryd.underlying132 rfl hM x _ rfl hkey ?_; simp only [hFx, Option.getD_none, Option.isSome_none]) | (at_mapUpdate; refine wpList_store _ rfl _ _ _ 132 rfl lawS strV_inj Tryd.underlying132 rfl hM hkl x _ (k : Int) rfl rfl hkey hFx hwf ?_; intro w1 hM1 hg1) | fail)
          refine ⟨⟨k + 1, by omega, by go_num, fun i hi => ?_, ?_, ?_⟩, by simp only [intOf]; omega⟩
          · by_cases e : i = k
            · rw [e]; exact HOK1.out
            · exact HOK.out i (by omega)
          · rw [rowsF_step HX.out, ← HF.out]; exact hM1
          · exact HB.out.grown hg1 HB.out.size (fun j hj => by cases hj; exact Nat.le_of_eq HZ.out.symm)
    · have hkn : k = ws.length := by omega
      subst hkn
      have HBD : Hid (firstBad (badW ws) ws.length = (0, 0)) := firstBad_none HOK.out
      clear hM hbr
      go_wp2_with fail
      exact bodyPost_ret (v := .tuple #[.int .i64 0, .int .i64 0]) (by simp [results, Tryd.results43, go_sem]) rfl ⟨by rw [HE.out, HBD.out]; rfl, HB.out⟩
end Go.Proofs.YtjbdhakogbolkaaDoor
end
