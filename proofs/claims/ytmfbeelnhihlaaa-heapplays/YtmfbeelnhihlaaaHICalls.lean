/- heap's Len, Least, Push, Pop: their contracts. -/
import Derived.Test.YtmfbeelnhihlaaaHIMove
import Derived.Test.YtmfbeelnhihlaaaHGrow
import Derived.Test.YtmfbeelnhihlaaaRHeld
import Derived.Test.YtmfbeelnhihlaaaURegion
namespace Go.Proofs.Ytmfbeelnhihlaaa.HI
open Go.RowKit Go.Joins Go.Sort
set_option linter.unusedVariables false
set_option linter.unusedSimpArgs false
set_option maxRecDepth 100000
/-- A heap of one's own: its block is g, its things lie in v. -/
structure HeapAt (w : World) (base g : Nat) (v : Value) (L : List El) : Prop where
  low : base ≤ g
  at_ : HpAt w g v
  row : RowE w base v L
  ne : v.ownBlock ≠ some g
theorem HeapAt.lt {w : World} {base g : Nat} {v : Value} {L : List El} (h : HeapAt w base g v L) : g < w.heap.size := (Array.getElem?_eq_some_iff.1 h.at_).1
theorem HeapAt.below {w w' : World} {base g : Nat} {v : Value} {L : List El} (h : HeapAt w base g v L) (hb : Below w.heap.size w w') : HeapAt w' base g v L :=
  ⟨h.low, h.at_.below hb, h.row.below hb, h.ne⟩
/-- What of old stood and may have turned: the heap's block and its things'. -/
structure Tn (g : Nat) (v v' : Value) (w w' : World) : Prop where
  os : w'.os = w.os
  tape : w'.tape = w.tape
  output : w'.output = w.output
  size : w.heap.size ≤ w'.heap.size
  block : ∀ k, k < w.heap.size → k ≠ g → some k ≠ v.ownBlock → w'.heap[k]? = w.heap[k]?
  moved : Moved v v' w.heap.size
theorem Tn.of_below {g : Nat} {v : Value} {w w' : World} (h : Below w.heap.size w w') : Tn g v v w w' :=
  ⟨h.os, h.tape, h.output, h.size, fun k hk _ _ => h.block k hk, fun b hb => .inl hb⟩
theorem Tn.below {g base : Nat} {v v' : Value} {L : List El} {w w' : World} (h : Tn g v v' w w') (ha : HeapAt w base g v L) : Below base w w' :=
  ⟨h.os, h.tape, h.output, h.size, fun k hk => by
    have hl := ha.low
    have hlt := ha.lt
    refine h.block k (by omega) (by omega) (fun e => ?_)
    have := World.ownsRow.lt ha.row k e.symm
    omega⟩
theorem Tn.trans {g : Nat} {v v' v'' : Value} {a b c : World} (h : Tn g v v' a b) (k : Tn g v' v'' b c) : Tn g v v'' a c :=
  ⟨k.os.trans h.os, k.tape.trans h.tape, k.output.trans h.output, Nat.le_trans h.size k.size, fun i hi h1 h2 => (k.block i (Nat.lt_of_lt_of_le hi h.size) h1 (fun e => by
    rcases h.moved i e.symm with h3 | h3
    · exact h2 h3.symm
    · omega)).trans (h.block i hi h1 h2), fun b hb => by
    rcases k.moved b hb with h3 | h3
    · exact h.moved b h3
    · exact .inr (Nat.le_trans h.size h3)⟩
/-- What else is owned stays, and stays apart. -/
theorem Tn.other {g base : Nat} {v v' u : Value} {w w' : World} {M : List El} (h : Tn g v v' w w') (hu : RowE w base u M) (hg : u.ownBlock ≠ some g) (hv : u.ownBlock = none ∨ u.ownBlock ≠ v.ownBlock) : RowE w' base u M ∧ (u.ownBlock = none ∨ u.ownBlock ≠ v'.ownBlock) := by
  refine ⟨⟨hu.1, ?_⟩, ?_⟩
  · rcases hu.2 with h0 | ⟨b, cap, cur, rfl, hb, hh, r⟩
    · exact .inl h0
    · refine .inr ⟨b, cap, cur, rfl, hb, ?_, r⟩
      rw [h.block b (Array.getElem?_eq_some_iff.1 hh).1 (fun e => hg (by rw [e]; rfl)) (by
        rcases hv with hv | hv
        · cases hv
        · exact hv)]
      exact hh
  · rcases hu.2 with ⟨rfl, _⟩ | ⟨b, cap, cur, rfl, hb, hh, r⟩
    · exact .inl rfl
    · right
      intro e
      rcases hv with hv | hv
      · cases hv
      · rcases h.moved b e.symm with h3 | h3
        · exact hv h3.symm
        · have := (Array.getElem?_eq_some_iff.1 hh).1
          omega
def zeroE : El := 0
/-- What Least and Pop answer. -/
def headR (L : List El) : Value := match L[0]? with | some x => .tuple #[valE x, .bool true] | none => .tuple #[valE zeroE, .bool false]
theorem len_any (base g : Nat) (v : Value) (L : List El) (w : World) (h : HeapAt w base g v L) :
    Calls Try.prog 11 #[.pointer (some ⟨g, 0, none⟩)] w fun e w' => e = .returned (.int .i64 (L.length : Nat)) ∧ w' = w := by
  have c1 : w.cell? ⟨g, 1, none⟩ = some v := by rw [cell_of_row w g 1 _ _ _ h.at_]; rfl
  obtain ⟨n, hn⟩ : ∃ n, n = L.length := ⟨_, rfl⟩
  rw [← hn]
  rcases ownsRow_forms h.row with ⟨rfl, h0⟩ | ⟨b, cap, rfl⟩
  · rw [← hn] at h0
    subst h0
    clear hn
    go_enter Try.func11, Try.ntmps11
    go_wp2
    go_ret
    exact ⟨rfl, rfl⟩
  · rw [← hn] at c1
    clear hn
    go_enter Try.func11, Try.ntmps11
    go_wp2
    go_ret
    exact ⟨rfl, rfl⟩
theorem least_any (base g : Nat) (v : Value) (L : List El) (w : World) (h : HeapAt w base g v L) :
    Calls Try.prog 8 #[.pointer (some ⟨g, 0, none⟩)] w fun e w' => e = .returned (headR L) ∧ Below w.heap.size w w' := by
  have c1 : w.cell? ⟨g, 1, none⟩ = some v := by rw [cell_of_row w g 1 _ _ _ h.at_]; rfl
  cases L with
  | nil =>
    have hR : headR [] = .tuple #[valE zeroE, .bool false] := rfl
    rw [hR]
    obtain ⟨a, c, rfl⟩ : ∃ a c, v = .slice a 0 c := by
      rcases ownsRow_forms h.row with ⟨rfl, h0⟩ | ⟨b, cap, rfl⟩
      · exact ⟨_, _, rfl⟩
      · exact ⟨_, _, rfl⟩
    unfold valE zeroE
    go_enter Try.func8, Try.ntmps8
    go_wp2
    refine bodyPost_ret (v := .tuple #[.int .i64 0, .bool false]) (by simp [results, Try.results8, go_sem]) rfl ⟨rfl, ?_⟩
    exact Below.refl _ _
  | cons x T =>
    have hR : headR (x :: T) = .tuple #[valE x, .bool true] := rfl
    rw [hR]
    obtain ⟨n, hn⟩ : ∃ n, n = (x :: T).length := ⟨_, rfl⟩
    have hn0 : 0 < n := by rw [hn]; simp
    have hrow := h.row
    obtain ⟨b, cap, rfl⟩ : ∃ b cap, v = .slice (some ⟨b, 0, none⟩) n cap := by
      rcases ownsRow_forms h.row with ⟨rfl, h0⟩ | ⟨b, cap, rfl⟩
      · simp at h0
      · exact ⟨_, _, by rw [hn]⟩
    have hX := hrow.at' (i := 0) (x := x) rfl
    rw [Nat.zero_mul] at hX
    clear hn hR
    have d0 : ((n : Int) == 0) = false := by simp; omega
    have i0 : (0 : Int) < (n : Int) := by omega
    unfold valE
    unfold ElAt at hX
    go_enter Try.func8, Try.ntmps8
    go_wp2
    refine bodyPost_ret (v := .tuple #[.int .i64 x, .bool true]) (by simp [results, Try.results8, go_sem]) rfl ⟨rfl, ?_⟩
    exact Below.refl _ _
theorem wp_named {P : Program} {c : Code} {Q : Exit → Act → World → Prop} {a : Act} {w : World} (h : ∀ X, X = w → c.wp P Q a X) : c.wp P Q a w := h w rfl
set_option maxHeartbeats 1000000 in
theorem pop_any (base g : Nat) (v : Value) (L : List El) (w : World) (h : HeapAt w base g v L) (hlen : L.length ≤ 1099511627776) :
    Calls Try.prog 10 #[.pointer (some ⟨g, 0, none⟩)] w fun e w' => ∃ v', e = .returned (headR L) ∧ HeapAt w' base g v' (popF keyE L) ∧ Tn g v v' w w' := by
  have hle := least_any base g v L
  cases L with
  | nil =>
    have hR : headR [] = .tuple #[valE zeroE, .bool false] := rfl
    rw [hR] at hle ⊢
    unfold valE zeroE at hle ⊢
    go_enter Try.func10, Try.ntmps10
    go_wp2_with fail
    refine (hle _ h).mono ?_
    rintro e w1 ⟨rfl, hb1⟩
    clear hle
    go_wp2_with fail
    refine bodyPost_ret (v := .tuple #[.int .i64 0, .bool false]) (by simp [results, Try.results10, go_sem]) rfl ⟨v, rfl, h.below hb1, Tn.of_below hb1⟩
  | cons x T =>
    have hR : headR (x :: T) = .tuple #[valE x, .bool true] := rfl
    rw [hR] at hle ⊢
    clear hR
    unfold valE at hle ⊢
    go_enter Try.func10, Try.ntmps10
    go_wp2_with fail
    refine (hle _ h).mono ?_
    rintro e w1 ⟨rfl, hb1⟩
    go_upto_region 5 with fail
    have h3 := h.below hb1
    have HBw := hb1
    refine wp_named fun X1 hX1 => ?_
    rw [← hX1] at h3 HBw
    clear hX1
    have hlt := h.lt
    have hv := World.ownsRow.lt h.row
    have hrow := h3.row
    obtain ⟨n, hn⟩ : ∃ n, n = (x :: T).length := ⟨_, rfl⟩
    obtain ⟨b, cap, rfl⟩ : ∃ b cap, v = .slice (some ⟨b, 0, none⟩) n cap := by
      rcases ownsRow_forms h.row with ⟨rfl, h0⟩ | ⟨b, cap, rfl⟩
      · simp at h0
      · exact ⟨_, _, by rw [hn]⟩
    have hbl := (hv b rfl).2
    have hgb : g ≠ b := fun e => h.ne (by rw [e]; rfl)
    have hn0 : 0 < n := by rw [hn]; simp
    obtain ⟨z, hz⟩ : ∃ z, (x :: T)[n - 1]? = some z := ⟨_, List.getElem?_eq_getElem (by omega)⟩
    have hZ := hrow.at' hz
    have c1 : X1.cell? ⟨g, 1, none⟩ = some (.slice (some ⟨b, 0, none⟩) n cap) := by rw [cell_of_row X1 g 1 _ _ _ h3.at_]; rfl
    have hX0 := hrow.at' (i := 0) (x := x) rfl
    rw [Nat.zero_mul] at hX0
    have fz := hrow.free
    have e1 := cell_regrown c1
    obtain ⟨m, hm⟩ : ∃ m, m = n - 1 := ⟨_, rfl⟩
    rw [← hm] at hZ hz
    have hmn : m < n := by omega
    have hmle : m ≤ 1099511627776 := by omega
    have hmi : (n : Int) - 1 = ((m : Nat) : Int) := by omega
    have i0 : 0 ≤ (m : Int) ∧ (m : Int) < (n : Int) := by omega
    have i1 : (0 : Int) < (n : Int) := by omega
    have HN : Hid (n = (x :: T).length) := hn
    have HM : Hid (m = n - 1) := hm
    have HZ : Hid ((x :: T)[m]? = some z) := hz
    clear hn hm hz
    rw [Nat.mul_one] at hZ
    have e2 := cell_regrown hZ
    go_wp2_with fail
    refine wp_region_quiet_tail (C := fun w' => ∃ p : Regrown, w' = grow (redrawn X1 p.d) p.os) 11 (by kernel_rfl) (by kernel_rfl) ⟨⟨_, #[]⟩, by rw [grow_empty]; rfl⟩ ?_
    simp only [List.take_succ_cons, List.take_zero, List.drop_succ_cons, List.drop_zero]
    repeat (go_big_quiet_step (fail))
    refine wpQuiet_nil ?_
    intro W5 hw'
    have hb5 : Below X1.heap.size X1 W5 := by
      obtain ⟨⟨dq, osq⟩, rfl⟩ := hw'
      exact below_regrown _ _ _
    clear hw'
    have hrow5 := hrow.below hb5
    have h5 := h3.below hb5
    have HB5 := HBw.trans (hb5.mono HBw.size)
    have hs5 : X1.heap.size ≤ W5.heap.size := hb5.size
    have a0 := hrow5.at' (i := 0) (x := x) rfl
    rw [Nat.zero_mul] at a0
    have f0 := hrow5.free
    obtain ⟨p5, g5⟩ := hrow5.put (i := 0) (by simp) z
    rw [Nat.zero_mul] at p5 g5
    have hp5 := h5.at_.grown g5 hgb
    unfold putE at p5 g5 hp5
    unfold ElAt at a0
    clear e1 e2  hb5 hZ hX0 fz hrow c1 hrow5 h5
    go_upto_region 7 with fail
    refine wp_named fun X6 hX6 => ?_
    rw [← hX6] at p5 g5 hp5 
    have hs6 : W5.heap.size ≤ X6.heap.size := g5.size
    have G6 : w.grownBy X6 (some b) := grownBy_trans ⟨HB5.os, HB5.tape, HB5.output, HB5.size, fun k hk _ => HB5.block k hk⟩ g5
    have c6 : X6.cell? ⟨g, 1, none⟩ = some (.slice (some ⟨b, 0, none⟩) n cap) := by rw [cell_of_row X6 g 1 _ _ _ hp5]; rfl
    clear hX6 g5 f0 a0 HBw HB5
    have hm6 : m < ((x :: T).set 0 z).length := by rw [List.length_set, ← HN.out]; exact hmn
    obtain ⟨y, hy⟩ : ∃ y, ((x :: T).set 0 z)[m]? = some y := ⟨_, List.getElem?_eq_getElem hm6⟩
    have hY := p5.at' hy
    have f6 := p5.free
    rw [Nat.mul_one] at hY
    have hs8 := hs6
    obtain ⟨p7, g7⟩ := p5.put hm6 0
    have hp7 := hp5.grown g7 hgb
    rw [Nat.mul_one] at p7 g7 hp7
    unfold putE at p7 g7 hp7
    unfold ElAt at hY
    go_upto_region 8 with fail
    refine wp_named fun X8 hX8 => ?_
    rw [← hX8] at p7 g7 hp7
    have G8 := grownBy_trans G6 g7
    clear hX8 g7 G6 hY f6 p5 hp5 c6 hy
    have p8 := RowE.pop (by rw [show m + 1 = n by omega]; exact p7)
    have c8 : X8.cell? ⟨g, 1, none⟩ = some (.slice (some ⟨b, 0, none⟩) n cap) := by rw [cell_of_row X8 g 1 _ _ _ hp7]; rfl
    have f8 : X8.frozen? ⟨g, 1, none⟩ = false := frozen_of_row X8 g 1 _ _ hp7
    have i3 : (m : Int) ≤ (cap : Int) := by
      rcases p7.2 with ⟨h0, _⟩ | ⟨b', cap', cur', h0, _, _, h1, _⟩
      · cases h0
      · cases h0; omega
    obtain ⟨M, hM⟩ : ∃ M, M = (((x :: T).set 0 z).set m (0 : El)).take m := ⟨_, rfl⟩
    rw [← hM] at p8
    have hMl : M.length = m := by rw [hM]; simp; simp at hm6; omega
    have hMe : M = ((x :: T).set 0 z).take m := by
      rw [hM]
      apply List.ext_getElem?
      intro q
      rw [List.getElem?_take, List.getElem?_take]
      by_cases hq : q < m
      · rw [if_pos hq, if_pos hq, List.getElem?_set_ne (by omega)]
      · rw [if_neg hq, if_neg hq]
    have HME : Hid (M = ((x :: T).set 0 z).take m) := hMe
    have HML : Hid (M.length = m) := hMl
    clear hM hMe
    have hp9 := hp7.turn (.slice (some ⟨b, 0, none⟩) m cap)
    have p9 : RowE (X8.setCell ⟨g, 1, none⟩ (.slice (some ⟨b, 0, none⟩) m cap)) base (.slice (some ⟨b, 0, none⟩) m cap) M := ownsRow_setCell_other p8 (fun e => hgb (by cases e; rfl)) _
    have HS := sink_any g b cap base _ M 0 _ hp9 (by rw [hMl]; exact p9) hgb (by rw [hMl]; omega) (Nat.zero_le _)
    rw [hMl] at HS
    obtain ⟨R, hR⟩ : ∃ R, R = sinkF keyE m M 0 := ⟨_, rfl⟩
    rw [← hR] at HS
    have HRR : Hid (R = sinkF keyE m M 0) := hR
    clear hR hMl
    go_upto_region 9 with fail
    refine wp_named fun X9 hX9 => ?_
    rw [← hX9] at HS 
    have hs9 : X8.heap.size ≤ X9.heap.size := by rw [hX9]; simp
    have G9 : ∀ k, k < w.heap.size → k ≠ g → k ≠ b → X9.heap[k]? = w.heap[k]? := by
      intro k hk h1 h2
      rw [hX9, heap_setCell_other X8 ⟨g, 1, none⟩ k _ h1, G8.block k hk (by simpa using h2)]
    have G9s : X9.os = w.os ∧ X9.tape = w.tape ∧ X9.output = w.output := by rw [hX9]; exact ⟨G8.os, G8.tape, G8.output⟩
    have hp9' : HpAt X9 g (.slice (some ⟨b, 0, none⟩) m cap) := by rw [hX9]; exact hp9
    have c9 : X9.cell? ⟨g, 1, none⟩ = some (.slice (some ⟨b, 0, none⟩) m cap) := by rw [cell_of_row X9 g 1 _ _ _ hp9']; rfl
    have G8s := G8.size
    clear hX9 hp9 p9 p8 c8 f8 i3 hp7 p7 G8 
    go_wp2_with fail
    refine HS.mono ?_
    rintro e w2 ⟨rfl, hrw, hgr⟩
    have hpop : popF keyE (x :: T) = R := by
      unfold popF
      rw [← HN.out, show n - 1 = m from HM.out.symm, HZ.out, HRR.out, HME.out]
    have hsz : w.heap.size ≤ w2.heap.size := Nat.le_trans G8s (Nat.le_trans hs9 hgr.size)
    have hT2 : Tn g (.slice (some ⟨b, 0, none⟩) n cap) (.slice (some ⟨b, 0, none⟩) m cap) w w2 :=
      ⟨hgr.os.trans G9s.1, hgr.tape.trans G9s.2.1, hgr.output.trans G9s.2.2, hsz, fun k hk h1 h2 => by
        have h2' : k ≠ b := fun e => h2 (by rw [e]; rfl)
        rw [hgr.block k (by omega) (by simpa using h2')]
        exact G9 k hk h1 h2', fun q hq => .inl hq⟩
    have hp2 := hp9'.grown hgr hgb
    clear HS hp9' c9
    go_wp2_with fail
    refine bodyPost_ret (v := .tuple #[.int .i64 x, .bool true]) (by simp [results, Try.results10, go_sem]) rfl ⟨.slice (some ⟨b, 0, none⟩) m cap, rfl, ?_⟩
    rw [hpop]
    exact ⟨⟨h.low, hp2, hrw, fun e => hgb (by cases e; rfl)⟩, hT2⟩
end Go.Proofs.Ytmfbeelnhihlaaa.HI
