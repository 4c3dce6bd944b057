import Derived.Test.YtjbdhakogbolkaaDoorJ3
import Derived.Test.YtjbdhakogbolkaaDoorJ1
import Derived.Test.YtjbdhakogbolkaaDoorJ2
import Derived.Lib.UnsafeStr
import Derived.Lib.BufferWrite
section
/- model.isMade, joined, wrongMerge: their contracts. -/
namespace Go.Proofs.YtjbdhakogbolkaaDoor
open Go.RowKit Go.Sort Go.Joins
set_option linter.unusedVariables false
/-- A row of n bools that f tells. -/
structure MadeAt (w : World) (g n : Nat) (f : Int → Bool) : Prop where
  row : ∃ cur, w.heap[g]? = some (.cells cur 4 (0, 0)) ∧ cur.size = n ∧ ∀ i : Nat, i < n → cur[i]? = some (.bool (f i))
  off : ∀ id : Int, id < 0 ∨ (n : Int) ≤ id → f id = false
theorem MadeAt.lt {w : World} {g n : Nat} {f : Int → Bool} (h : MadeAt w g n f) : g < w.heap.size := by
  obtain ⟨cur, hc, -⟩ := h.row
  exact (Array.getElem?_eq_some_iff.1 hc).1
theorem MadeAt.below {w w' : World} {B g n : Nat} {f : Int → Bool} (h : MadeAt w g n f) (hb : Below B w w') (hg : g < B) : MadeAt w' g n f := by
  obtain ⟨⟨cur, hc, hs, hf⟩, ho⟩ := h
  exact ⟨⟨cur, (hb.block g hg).trans hc, hs, hf⟩, ho⟩
theorem MadeAt.kept {w w' : World} {g n : Nat} {f : Int → Bool} (h : MadeAt w g n f) (hk : w'.heap[g]? = w.heap[g]?) : MadeAt w' g n f := by
  obtain ⟨⟨cur, hc, hs, hf⟩, ho⟩ := h
  exact ⟨⟨cur, hk.trans hc, hs, hf⟩, ho⟩
theorem MadeAt.set {w : World} {g n i : Nat} {f : Int → Bool} (h : MadeAt w g n f) (hi : i < n) : MadeAt (w.setCell ⟨g, i, none⟩ (.bool true)) g n (fun id => id == (i : Int) || f id) := by
  obtain ⟨⟨cur, hc, hs, hf⟩, ho⟩ := h
  refine ⟨⟨_, block_setCell hc _, by simpa using hs, fun j hj => ?_⟩, fun id hid => ?_⟩
  · by_cases e : i = j
    · subst e
      rw [Array.getElem?_setIfInBounds_self_of_lt (by omega)]
      simp
    · rw [Array.getElem?_setIfInBounds_ne e, hf j hj]
      have : ((j : Int) == (i : Int)) = false := by simp; omega
      rw [this]; rfl
  · have : (id == (i : Int)) = false := by simp; omega
    simp only [this, ho id hid]; rfl
theorem MadeAt.congr {w : World} {g n : Nat} {f f' : Int → Bool} (h : MadeAt w g n f) (e : ∀ id, f' id = f id) : MadeAt w g n f' := by
  have : f' = f := funext e
  rw [this]; exact h
set_option maxRecDepth 100000 in
set_option maxHeartbeats 1000000 in
theorem isMade_any (g n : Nat) (f : Int → Bool) (id : Int) (w : World) (hn : n ≤ 4611686018427387904) (h : MadeAt w g n f) :
    Calls Tryd.prog 84 #[.slice (some ⟨g, 0, none⟩) n n, .int .i64 id] w fun e w' => e = .returned (.bool (f id)) ∧ w' = w := by
  by_cases h0 : id < 0
  · rw [h.off id (.inl h0)]
    have hd : decide (0 ≤ id) = false := decide_eq_false (by omega)
    clear h
    go_enter Tryd.func84, Tryd.ntmps84
    go_wp2_with fail
    go_ret
    exact ⟨rfl, rfl⟩
  · have hd : decide (0 ≤ id) = true := decide_eq_true (by omega)
    by_cases h1 : id < n
    · obtain ⟨k, rfl⟩ : ∃ k : Nat, id = k := ⟨id.toNat, by omega⟩
      have hd1 : decide ((k : Int) < (n : Int)) = true := decide_eq_true h1
      obtain ⟨cur, hc, hs, hf⟩ := h.row
      have q0 := cell_of_block hc k
      rw [hf k (by omega)] at q0
      obtain ⟨v, hv⟩ : ∃ v, v = f k := ⟨_, rfl⟩
      rw [← hv] at q0 ⊢
      clear h hc hs hf hv
      go_enter Tryd.func84, Tryd.ntmps84
      go_wp2_with fail
      go_ret
      exact ⟨rfl, rfl⟩
    · rw [h.off id (.inr (by omega))]
      have hd1 : decide (id < (n : Int)) = false := decide_eq_false (by omega)
      clear h
      go_enter Tryd.func84, Tryd.ntmps84
      go_wp2_with fail
      go_ret
      exact ⟨rfl, rfl⟩
set_option maxRecDepth 100000 in
set_option maxHeartbeats 1000000 in
theorem joined_any (g cw : Nat) (aw : Option Addr) (ws : List ByteArray) (l r : Int) (w : World) (hn : ws.length ≤ 4611686018427387904) (hz6 : ∀ (i : Nat) (x : ByteArray), ws[i]? = some x → x.size ≤ 256) (h : w.cell? ⟨g, 0, none⟩ = some (.slice aw ws.length cw)) (hW : WSP w aw ws) :
    Calls Tryd.prog 85 #[.pointer (some ⟨g, 0, none⟩), .int .i64 l, .int .i64 r] w fun e w' => e = .returned (.string (joinM ws l r)) ∧ Below w.heap.size w w' := by
  have hs1 := wordM_size hz6 l
  have hs2 := wordM_size hz6 r
  have H := fun (wx : World) id h hW => word_any g cw aw ws id wx hn h hW
  unfold joinM
  obtain ⟨S1, hS1⟩ : ∃ S, S = (wordM ws l).getD ⟨#[]⟩ := ⟨_, rfl⟩
  obtain ⟨T1, hT1⟩ : ∃ S, S = (wordM ws l).isSome := ⟨_, rfl⟩
  obtain ⟨S2, hS2⟩ : ∃ S, S = (wordM ws r).getD ⟨#[]⟩ := ⟨_, rfl⟩
  obtain ⟨T2, hT2⟩ : ∃ S, S = (wordM ws r).isSome := ⟨_, rfl⟩
  have H1 : ∀ wx, wx.cell? ⟨g, 0, none⟩ = some (.slice aw ws.length cw) → WSP wx aw ws → Calls Tryd.prog 23 #[.pointer (some ⟨g, 0, none⟩), .int .i64 l] wx fun e w' => e = .returned (.tuple #[.string S1, .bool T1]) ∧ Below wx.heap.size wx w' := by
    intro wx h1 h2
    have := H wx l h1 h2
    unfold wdV at this
    rw [← hS1, ← hT1] at this
    exact this
  have H2 : ∀ wx, wx.cell? ⟨g, 0, none⟩ = some (.slice aw ws.length cw) → WSP wx aw ws → Calls Tryd.prog 23 #[.pointer (some ⟨g, 0, none⟩), .int .i64 r] wx fun e w' => e = .returned (.tuple #[.string S2, .bool T2]) ∧ Below wx.heap.size wx w' := by
    intro wx h1 h2
    have := H wx r h1 h2
    unfold wdV at this
    rw [← hS2, ← hT2] at this
    exact this
  rw [← hS1] at hs1 ⊢
  rw [← hS2] at hs2 ⊢
  clear hS1 hS2 hT1 hT2 H
  have hk := World.block_lt_of_cell? w _ h
  go_enter Tryd.func85, Tryd.ntmps85
  go_wp2_with fail
  refine (H1 _ h hW).mono ?_
  rintro e w1 ⟨rfl, hb1⟩
  have h1 := (hb1.cell (p := ⟨g, 0, none⟩) hk).trans h
  have hW1 := hW.below hb1
  clear H1 hW h
  go_wp2_with fail
  refine (H2 _ h1 hW1).mono ?_
  rintro e w2 ⟨rfl, hb2⟩
  clear H2 hW1 h1
  go_wp2_with fail
  go_ret
  exact ⟨rfl, hb1.trans (hb2.mono hb1.size)⟩
set_option maxRecDepth 100000 in
set_option maxHeartbeats 4000000 in
theorem wrongMerge_any (g mg cw k : Nat) (aw : Option Addr) (ws : List ByteArray) (ms : List Mg) (x : Mg) (w : World) (hn : ws.length ≤ 4611686018427387648) (hz6 : ∀ (i : Nat) (x : ByteArray), ws[i]? = some x → x.size ≤ 256) (hx : ms[k]? = some x)
    (h : w.cell? ⟨g, 0, none⟩ = some (.slice aw ws.length cw)) (hW : WSP w aw ws) (hM : MadeAt w mg (256 + ws.length) (madeM ms k)) :
    Calls Tryd.prog 65 #[.pointer (some ⟨g, 0, none⟩), .agg #[.int .i64 x.l, .int .i64 x.r, .int .i64 x.i], .slice (some ⟨mg, 0, none⟩) (256 + ws.length) (256 + ws.length)] w fun e w' => e = .returned (.int .i64 (cutM ws ms k : Nat)) ∧ Below w.heap.size w w' := by
  have hk := World.block_lt_of_cell? w _ h
  have hmk := hM.lt
  have HX : Hid (ms[k]? = some x) := hx
  have HW := fun (wx : World) h hW => word_any g cw aw ws x.i wx (by omega) h hW
  have HI := fun id (wx : World) h => isMade_any mg (256 + ws.length) (madeM ms k) id wx (by omega) h
  have HJ := fun (wx : World) h hW => joined_any g cw aw ws x.l x.r wx (by omega) hz6 h hW
  have hR := RM.start x (Below.refl w.heap.size w)
  have hD := box_below w (.cells #[.int .i64 x.l, .int .i64 x.r, .int .i64 x.i] 24)
  have h1 := (hD.cell (p := ⟨g, 0, none⟩) hk).trans h
  have hW1 := hW.below hD
  have hM1 := hM.below hD hmk
  have m2 := hR.m2
  have HR : Hid (RM w (w.alloc (.cells #[.int .i64 x.l, .int .i64 x.r, .int .i64 x.i] 24)) w.heap.size x) := hR
  have HD := hD
  clear hx h hW hM hR hD hz6
  obtain ⟨E, hE⟩ : ∃ E, E = cutM ws ms k := ⟨_, rfl⟩
  have HE : Hid (E = cutM ws ms k) := hE
  rw [← hE]
  clear hE
  go_enter Tryd.func65, Tryd.ntmps65
  go_wp2_with fail
  refine (HW _ h1 hW1).mono ?_
  rintro e w1 ⟨rfl, hb1⟩
  have hR := HR.out.next hb1
  have h2 := (hb1.cell (p := ⟨g, 0, none⟩) (by simp; omega)).trans h1
  have hW2 := hW1.below hb1
  have hM2 := hM1.below hb1 (by simp; omega)
  have m0 := hR.m0
  have m1 := hR.m1
  have m2 := hR.m2
  have hbl := hR.bel
  obtain ⟨xb, hxb⟩ : ∃ xb, xb = w.heap.size := ⟨_, rfl⟩
  rw [← hxb] at m0 m1 m2 ⊢
  have hmk2 : mg < w1.heap.size := hM2.lt
  have hgk2 : g < w1.heap.size := World.block_lt_of_cell? w1 _ h2
  have HR2 : Hid (RM w w1 xb x) := by rw [hxb]; exact hR
  clear hxb hR HR HD hb1 h1 hW1 hM1 HW
  unfold wdV
  obtain ⟨o, ho⟩ : ∃ o, o = wordM ws x.i := ⟨_, rfl⟩
  rw [← ho]
  have HO : Hid (o = wordM ws x.i) := ho
  clear ho
  cases o with
  | none =>
    have he : cutM ws ms k = 24 := cutM_24 HX.out (by
      have := HO.out
      unfold wordM at this
      by_cases h0 : 0 ≤ x.i ∧ x.i < 256
      · rw [if_pos h0] at this; cases this
      · rw [if_neg h0] at this
        by_cases h1 : 256 ≤ x.i
        · rw [if_pos h1] at this
          have := List.getElem?_eq_none_iff.1 this.symm
          omega
        · omega)
    have HE2 : Hid (E = 24) := HE.out.trans he
    clear he h2 hW2 hM2 m0 m1 m2
    simp only [Option.getD_none, Option.isSome_none]
    go_wp2_with fail
    go_ret
    exact ⟨by rw [HE2.out]; rfl, hbl⟩
  | some X =>
    simp only [Option.getD_some, Option.isSome_some]
    have hin : 0 ≤ x.i ∧ x.i < 256 + ws.length := by
      have := HO.out
      unfold wordM at this
      by_cases h0 : 0 ≤ x.i ∧ x.i < 256
      · omega
      · rw [if_neg h0] at this
        by_cases h1 : 256 ≤ x.i
        · rw [if_pos h1] at this
          have := (List.getElem?_eq_some_iff.1 this.symm).1
          omega
        · rw [if_neg h1] at this; cases this
    obtain ⟨q, hq⟩ : ∃ q : Nat, x.i = q := ⟨x.i.toNat, by omega⟩
    have HQ : Hid (x.i = (q : Int)) := hq
    rw [hq] at m2
    obtain ⟨cur, hc, hs, hf⟩ := hM2.row
    have c0 := cell_of_block hc q
    rw [hf q (by omega)] at c0
    have hql : q < 256 + ws.length := by omega
    obtain ⟨v, hv⟩ : ∃ v, v = madeM ms k (q : Int) := ⟨_, rfl⟩
    rw [← hv] at c0
    have HV : Hid (v = madeM ms k x.i) := by rw [hv, hq]; exact rfl
    clear hv hc hs hf hin hq
    cases v with
    | true =>
      have he : E = 24 := HE.out.trans (cutM_24 HX.out (.inr (.inr HV.out.symm)))
      have HE2 : Hid (E = 24) := he
      clear he h2 hW2 hM2 m0 m1
      go_wp2_with fail
      go_ret
      exact ⟨by rw [HE2.out]; rfl, hbl⟩
    | false =>
      have hno : ¬ (x.i < 256 ∨ (ws.length : Int) ≤ x.i - 256 ∨ madeM ms k x.i = true) := by
        have h1 := HV.out.symm
        rintro (h | h | h)
        · unfold madeM at h1
          have e1 : decide (0 ≤ x.i) = true := decide_eq_true (by rw [HQ.out]; omega)
          rw [e1, decide_eq_true h] at h1
          cases h1
        · have := HQ.out; omega
        · rw [h1] at h; cases h
      have HN : Hid (¬ (x.i < 256 ∨ (ws.length : Int) ≤ x.i - 256 ∨ madeM ms k x.i = true)) := hno
      clear hno
      go_wp2_with fail
      refine (HI _ _ hM2).mono ?_
      rintro e w2 ⟨rfl, he⟩
      obtain rfl := he.symm
      clear c0
      obtain ⟨v1, hv1⟩ : ∃ v, v = madeM ms k x.l := ⟨_, rfl⟩
      rw [← hv1]
      have HV1 : Hid (v1 = madeM ms k x.l) := hv1
      clear hv1
      cases v1 with
      | false =>
        have he : E = 23 := HE.out.trans (cutM_23 HX.out HN.out (.inl HV1.out.symm))
        have HE2 : Hid (E = 23) := he
        clear he h2 hW2 hM2 m0 m1 m2
        go_wp2_with fail
        go_ret
        exact ⟨by rw [HE2.out]; rfl, hbl⟩
      | true =>
        go_wp2_with fail
        refine (HI _ _ hM2).mono ?_
        rintro e w3 ⟨rfl, he⟩
        obtain rfl := he.symm
        obtain ⟨v2, hv2⟩ : ∃ v, v = madeM ms k x.r := ⟨_, rfl⟩
        rw [← hv2]
        have HV2 : Hid (v2 = madeM ms k x.r) := hv2
        clear hv2
        cases v2 with
        | false =>
          have he : E = 23 := HE.out.trans (cutM_23 HX.out HN.out (.inr HV2.out.symm))
          have HE2 : Hid (E = 23) := he
          clear he h2 hW2 hM2 m0 m1 m2
          go_wp2_with fail
          go_ret
          exact ⟨by rw [HE2.out]; rfl, hbl⟩
        | true =>
          have hno2 : ¬ (madeM ms k x.l = false ∨ madeM ms k x.r = false) := by
            rintro (h | h)
            · rw [h] at HV1; exact absurd HV1.out (by decide)
            · rw [h] at HV2; exact absurd HV2.out (by decide)
          have HN2 : Hid (¬ (madeM ms k x.l = false ∨ madeM ms k x.r = false)) := hno2
          clear hno2
          go_wp2_with fail
          refine (HJ _ h2 hW2).mono ?_
          rintro e w4 ⟨rfl, hb4⟩
          have hB4 := hbl.trans (hb4.mono hbl.size)
          clear h2 hW2 hM2 m0 m1 m2
          obtain ⟨J, hJ⟩ : ∃ J, J = joinM ws x.l x.r := ⟨_, rfl⟩
          rw [← hJ]
          have HJ2 : Hid (J = joinM ws x.l x.r) := hJ
          have hq : (X.toList == J.toList) = decide (X = J) := strEq_dec X J
          obtain ⟨u, hu⟩ : ∃ u, u = decide (X = J) := ⟨_, rfl⟩
          rw [← hu] at hq
          have HU : Hid (u = decide (X = J)) := hu
          clear hu hJ
          cases u with
          | false =>
            have he : E = 25 := HE.out.trans (cutM_25 HX.out HN.out HN2.out (by rw [← HO.out, ← HJ2.out]; intro e; exact of_decide_eq_false HU.out.symm (Option.some.inj e)))
            have HE2 : Hid (E = 25) := he
            clear he
            go_wp2_with fail
            go_ret
            exact ⟨by rw [HE2.out]; rfl, hB4⟩
          | true =>
            have he : E = 0 := HE.out.trans (cutM_ok HX.out HN.out HN2.out (by rw [← HO.out, ← HJ2.out, of_decide_eq_true HU.out.symm]))
            have HE2 : Hid (E = 0) := he
            clear he
            go_wp2_with fail
            go_ret
            exact ⟨by rw [HE2.out]; rfl, hB4⟩
end Go.Proofs.YtjbdhakogbolkaaDoor
end
section
/- strings.Clone; slices.Clone of words and of merges: their contracts. -/
namespace Go.Proofs.YtjbdhakogbolkaaDoor
open Go.RowKit Go.Sort Go.Joins
/-- The cells of words. -/
def cellsW (l : List ByteArray) : List Value := l.map Value.string
theorem cellsW_length (l : List ByteArray) : (cellsW l).length = l.length * 1 := by simp [cellsW]
theorem cellsW_get {l : List ByteArray} {i : Nat} {x : ByteArray} (h : l[i]? = some x) : (cellsW l)[i]? = some (.string x) := by simp [cellsW, h]
theorem cellsW_one (l : List ByteArray) : ∀ v ∈ cellsW l, v.oneCell' = true := by
  intro v hv
  simp [cellsW] at hv
  obtain ⟨c, _, rfl⟩ := hv
  rfl
/-- The cells of merges. -/
def cellsM (l : List Mg) : List Value := l.flatMap fun x => [.int .i64 x.l, .int .i64 x.r, .int .i64 x.i]
theorem cellsM_length (l : List Mg) : (cellsM l).length = l.length * 3 := by
  induction l with
  | nil => rfl
  | cons x l ih => simp only [cellsM, List.flatMap_cons, List.length_append, List.length_cons] at ih ⊢; rw [ih]; simp; omega
theorem cellsM_get (l : List Mg) (i : Nat) (x : Mg) (h : l[i]? = some x) : (cellsM l)[i * 3]? = some (.int .i64 x.l) ∧ (cellsM l)[i * 3 + 1]? = some (.int .i64 x.r) ∧ (cellsM l)[i * 3 + 2]? = some (.int .i64 x.i) := by
  induction l generalizing i with
  | nil => simp at h
  | cons y l ih =>
    cases i with
    | zero =>
      have : y = x := by simpa using h
      subst this
      exact ⟨rfl, rfl, rfl⟩
    | succ i =>
      have := ih i (by simpa using h)
      have e : cellsM (y :: l) = .int .i64 y.l :: .int .i64 y.r :: .int .i64 y.i :: cellsM l := rfl
      rw [e, show (i + 1) * 3 = i * 3 + 1 + 1 + 1 by omega, show i * 3 + 1 + 1 + 1 + 1 = (i * 3 + 1) + 1 + 1 + 1 from rfl, show i * 3 + 1 + 1 + 1 + 2 = (i * 3 + 2) + 1 + 1 + 1 from rfl]
      simpa using this
theorem cellsM_one (l : List Mg) : ∀ v ∈ cellsM l, v.oneCell' = true := by
  intro v hv
  simp [cellsM] at hv
  obtain ⟨c, _, h⟩ := hv
  rcases h with rfl | rfl | rfl <;> rfl
theorem WSP.cells {w : World} {x : Addr} {l : List ByteArray} (h : WSP w (some x) l) : ∀ j u, (cellsW l)[j]? = some u → w.cell? (x.add j) = some u := by
  intro j u hu
  rcases h with rfl | ⟨b, off, hx, hc⟩
  · simp [cellsW] at hu
  · obtain rfl := Option.some.inj hx
    have hj : j < l.length := by have := (List.getElem?_eq_some_iff.1 hu).1; rw [cellsW_length] at this; omega
    have hi : l[j]? = some l[j] := List.getElem?_eq_getElem hj
    rw [cellsW_get hi] at hu
    rw [Go.WideShapes.add_plain, hc j _ hi]
    exact hu
theorem MSP.cells {w : World} {x : Addr} {l : List Mg} (h : MSP w (some x) l) : ∀ j u, (cellsM l)[j]? = some u → w.cell? (x.add j) = some u := by
  intro j u hu
  rcases h with rfl | ⟨b, off, hx, hc⟩
  · simp [cellsM] at hu
  · obtain rfl := Option.some.inj hx
    have hj : j < (cellsM l).length := (List.getElem?_eq_some_iff.1 hu).1
    rw [cellsM_length] at hj
    have hi : l[j / 3]? = some l[j / 3] := List.getElem?_eq_getElem (by omega)
    obtain ⟨g0, g1, g2⟩ := cellsM_get _ _ _ hi
    obtain ⟨c0, c1, c2⟩ := hc _ _ hi
    rw [Go.WideShapes.add_plain]
    have h3 : j % 3 = 0 ∨ j % 3 = 1 ∨ j % 3 = 2 := by omega
    rcases h3 with e | e | e
    · have ej : j = j / 3 * 3 := by omega
      rw [ej, g0] at hu
      rw [ej, c0]
      exact hu
    · have ej : j = j / 3 * 3 + 1 := by omega
      rw [ej, g1] at hu
      rw [ej, ← Nat.add_assoc, c1]
      exact hu
    · have ej : j = j / 3 * 3 + 2 := by omega
      rw [ej, g2] at hu
      rw [ej, ← Nat.add_assoc, c2]
      exact hu
theorem infoW : (Tryd.prog.info? 9).map (fun i => (i.zero, i.size, i.bytes)) = some (some (.string ⟨#[]⟩), 1, 16) := by kernel_rfl
theorem infoM : (Tryd.prog.info? 24).map (fun i => (i.zero, i.size, i.bytes)) = some (some (.agg #[.int .i64 0, .int .i64 0, .int .i64 0]), 3, 24) := by kernel_rfl
theorem eqW_nil_none (n c : Nat) (W : World) : (binOp BinOp.eql 22 (.slice none n c) (.slice none 0 0)).run Tryd.prog W = .ok (.bool true) W := by kernel_rfl
theorem eqW_nil_some (x : Addr) (n c : Nat) (W : World) : (binOp BinOp.eql 22 (.slice (some x) n c) (.slice none 0 0)).run Tryd.prog W = .ok (.bool false) W := by kernel_rfl
theorem eqM_nil_none (n c : Nat) (W : World) : (binOp BinOp.eql 25 (.slice none n c) (.slice none 0 0)).run Tryd.prog W = .ok (.bool true) W := by kernel_rfl
theorem eqM_nil_some (x : Addr) (n c : Nat) (W : World) : (binOp BinOp.eql 25 (.slice (some x) n c) (.slice none 0 0)).run Tryd.prog W = .ok (.bool false) W := by kernel_rfl
/-- A list of words in memory of one's own, spare room and all. -/
def WPR (w : World) (lo : Nat) (a : Option Addr) (c : Nat) (l : List ByteArray) : Prop := (c = 0 ∧ l = []) ∨ ∃ g cur, a = some ⟨g, 0, none⟩ ∧ lo ≤ g ∧ w.heap[g]? = some (.cells cur 9 (0, 0)) ∧ cur.size = c * 1 ∧ ∀ (i : Nat) (x : ByteArray), l[i]? = some x → cur[i]? = some (.string x)
theorem WPR.below {w w' : World} {lo c : Nat} {a : Option Addr} {l : List ByteArray} (h : WPR w lo a c l) (hb : Below w.heap.size w w') : WPR w' lo a c l := by
  rcases h with h | ⟨g, cur, h1, h2, h3, h4⟩
  · exact .inl h
  · exact .inr ⟨g, cur, h1, h2, (hb.block g (Array.getElem?_eq_some_iff.1 h3).1).trans h3, h4⟩
theorem WPR.low {w : World} {lo lo' c : Nat} {a : Option Addr} {l : List ByteArray} (h : WPR w lo a c l) (hl : lo' ≤ lo) : WPR w lo' a c l := by
  rcases h with h | ⟨g, cur, h1, h2, h3⟩
  · exact .inl h
  · exact .inr ⟨g, cur, h1, by omega, h3⟩
theorem WPR.away {w : World} {lo c : Nat} {a : Option Addr} {l : List ByteArray} (h : WPR w lo a c l) {b o : Nat} (hb : b < lo) (v : Value) : WPR (w.setCell ⟨b, o, none⟩ v) lo a c l := by
  rcases h with h | ⟨g, cur, h1, h2, h3, h4⟩
  · exact .inl h
  · exact .inr ⟨g, cur, h1, h2, (Below.heap_setCell w ⟨b, o, none⟩ v g (fun e => by have e' : g = b := e; omega)).trans h3, h4⟩
theorem WPR.sp {w : World} {lo c : Nat} {a : Option Addr} {l : List ByteArray} (h : WPR w lo a c l) : WSP w a l := by
  rcases h with ⟨-, h⟩ | ⟨g, cur, rfl, h2, h3, h4, h5⟩
  · exact .inl h
  · exact .inr ⟨g, 0, rfl, fun i x hx => by rw [cell_of_block h3, Nat.zero_add]; exact h5 i x hx⟩
/-- Appending words to a new, empty list. -/
theorem appW (x : Addr) (cap : Nat) (l : List ByteArray) (w : World) (hlen : l.length ≤ 8796093022208) (h : WSP w (some x) l) :
    ∃ a' c' w', (Builtin.append_ #[22, 22] 22 #[.slice (some ⟨w.heap.size, 0, none⟩) 0 0, .slice (some x) l.length cap]).run Tryd.prog (w.alloc (.cells #[] 9)) = .ok (.slice a' l.length c') w' ∧ l.length ≤ c' ∧ c' ≤ 9223372036854775807 ∧ WPR w' w.heap.size a' c' l ∧ Below w.heap.size w w' := by
  obtain ⟨i0, hi, hz0, hz1, hz2⟩ := info_parts infoW
  have hb := box_below w (.cells #[] 9)
  have hown : (w.alloc (.cells #[] 9)).ownsRow w.heap.size 9 1 (.slice (some ⟨w.heap.size, 0, none⟩) 0 0) 0 [] :=
    ⟨rfl, .inr ⟨w.heap.size, 0, #[], rfl, Nat.le_refl _, heap_alloc_new w _, Nat.le_refl _, by simp [maxLen], rfl, rfl⟩⟩
  obtain ⟨v', w', h1, h2, h3, h4⟩ := run_append_own (P := Tryd.prog) (w.alloc (.cells #[] 9)) w.heap.size 22 22 9 i0 _ 1 16 Tryd.underlying22 hi hz0 hz1 hz2 rfl (by decide) _ 0 [] hown x l.length cap (cellsW l) (cellsW_length l) (h.below hb).cells (cellsW_one l) (by unfold maxLen; omega) (by omega) (by simp)
  rw [Nat.zero_add, List.nil_append] at h2
  have hB : Below w.heap.size w w' := hb.grown h3 (by simp) (fun k hk => by
    have : k = w.heap.size := by simpa [Value.ownBlock] using hk.symm
    omega)
  rcases h2.2 with ⟨hv, _⟩ | ⟨g, c, cur, hv, hg, hh, hn, hm, hs, ht⟩
  · have := (h4.1 hv).1
    cases this
  · subst hv
    refine ⟨_, c, w', h1, hn, by simpa [maxLen] using hm, .inr ⟨g, cur, rfl, hg, hh, by omega, fun i y hy => ?_⟩, hB⟩
    have hi : i < l.length := (List.getElem?_eq_some_iff.1 hy).1
    have q0 := cellsW_get hy
    rw [← ht] at q0
    rw [List.getElem?_take_of_lt (by omega)] at q0
    simpa using q0
/-- A list of words of one's own. -/
structure OwnW (w : World) (lo : Nat) (a : Option Addr) (c : Nat) (l : List ByteArray) : Prop where
  le : l.length ≤ c
  cap : c ≤ 9223372036854775807
  row : WPR w lo a c l
theorem OwnW.below {w w' : World} {lo c : Nat} {a : Option Addr} {l : List ByteArray} (h : OwnW w lo a c l) (hb : Below w.heap.size w w') : OwnW w' lo a c l := ⟨h.le, h.cap, h.row.below hb⟩
theorem OwnW.low {w : World} {lo lo' c : Nat} {a : Option Addr} {l : List ByteArray} (h : OwnW w lo a c l) (hl : lo' ≤ lo) : OwnW w lo' a c l := ⟨h.le, h.cap, h.row.low hl⟩
theorem OwnW.away {w : World} {lo c : Nat} {a : Option Addr} {l : List ByteArray} (h : OwnW w lo a c l) {b o : Nat} (hb : b < lo) (v : Value) : OwnW (w.setCell ⟨b, o, none⟩ v) lo a c l := ⟨h.le, h.cap, h.row.away hb v⟩
set_option maxHeartbeats 1000000 in
theorem cloneW_any (a : Option Addr) (cap : Nat) (l : List ByteArray) (w : World) (hlen : l.length ≤ 8796093022208) (h : WSP w a l) :
    Calls Tryd.prog 62 #[.slice a l.length cap] w fun e w' => ∃ a' c', e = .returned (.slice a' l.length c') ∧ OwnW w' w.heap.size a' c' l ∧ Below w.heap.size w w' := by
  cases a with
  | none =>
    have hl : l = [] := by
      rcases h with h | ⟨b, off, h, _⟩
      · exact h
      · cases h
    subst hl
    have he := eqW_nil_none 0 cap
    simp only [List.length_nil]
    go_enter Tryd.func62, Tryd.ntmps62
    go_wp2_with fail
    go_ret
    exact ⟨none, 0, rfl, ⟨Nat.le_refl _, by omega, .inl ⟨rfl, rfl⟩⟩, Below.refl _ _⟩
  | some x =>
    have he := eqW_nil_some x l.length cap
    obtain ⟨a', c', w', h1, h2, h3, h4, hB⟩ := appW x cap l w hlen h
    clear h
    go_enter Tryd.func62, Tryd.ntmps62
    go_wp2_with (at_builtin; refine wpList_append_run rfl (.tmp 5) (.tmp 6) 22 22 rfl _ _ rfl rfl _ w' h1 ?_)
    go_ret
    exact ⟨a', c', rfl, ⟨h2, h3, h4⟩, hB⟩
/-- A list of merges in memory of one's own, spare room and all. -/
def MPR (w : World) (lo : Nat) (a : Option Addr) (c : Nat) (l : List Mg) : Prop := (c = 0 ∧ l = []) ∨ ∃ g cur, a = some ⟨g, 0, none⟩ ∧ lo ≤ g ∧ w.heap[g]? = some (.cells cur 24 (0, 0)) ∧ cur.size = c * 3 ∧ ∀ (i : Nat) (x : Mg), l[i]? = some x → cur[i * 3]? = some (.int .i64 x.l) ∧ cur[i * 3 + 1]? = some (.int .i64 x.r) ∧ cur[i * 3 + 2]? = some (.int .i64 x.i)
theorem MPR.below {w w' : World} {lo c : Nat} {a : Option Addr} {l : List Mg} (h : MPR w lo a c l) (hb : Below w.heap.size w w') : MPR w' lo a c l := by
  rcases h with h | ⟨g, cur, h1, h2, h3, h4⟩
  · exact .inl h
  · exact .inr ⟨g, cur, h1, h2, (hb.block g (Array.getElem?_eq_some_iff.1 h3).1).trans h3, h4⟩
theorem MPR.low {w : World} {lo lo' c : Nat} {a : Option Addr} {l : List Mg} (h : MPR w lo a c l) (hl : lo' ≤ lo) : MPR w lo' a c l := by
  rcases h with h | ⟨g, cur, h1, h2, h3⟩
  · exact .inl h
  · exact .inr ⟨g, cur, h1, by omega, h3⟩
theorem MPR.away {w : World} {lo c : Nat} {a : Option Addr} {l : List Mg} (h : MPR w lo a c l) {b o : Nat} (hb : b < lo) (v : Value) : MPR (w.setCell ⟨b, o, none⟩ v) lo a c l := by
  rcases h with h | ⟨g, cur, h1, h2, h3, h4⟩
  · exact .inl h
  · exact .inr ⟨g, cur, h1, h2, (Below.heap_setCell w ⟨b, o, none⟩ v g (fun e => by have e' : g = b := e; omega)).trans h3, h4⟩
theorem MPR.sp {w : World} {lo c : Nat} {a : Option Addr} {l : List Mg} (h : MPR w lo a c l) : MSP w a l := by
  rcases h with ⟨-, h⟩ | ⟨g, cur, rfl, h2, h3, h4, h5⟩
  · exact .inl h
  · exact .inr ⟨g, 0, rfl, fun i x hx => ⟨by rw [cell_of_block h3, Nat.zero_add]; exact (h5 i x hx).1, by rw [cell_of_block h3, Nat.zero_add]; exact (h5 i x hx).2.1, by rw [cell_of_block h3, Nat.zero_add]; exact (h5 i x hx).2.2⟩⟩
/-- Appending merges to a new, empty list. -/
theorem appM (x : Addr) (cap : Nat) (l : List Mg) (w : World) (hlen : l.length ≤ 5864062014805) (h : MSP w (some x) l) :
    ∃ a' c' w', (Builtin.append_ #[25, 25] 25 #[.slice (some ⟨w.heap.size, 0, none⟩) 0 0, .slice (some x) l.length cap]).run Tryd.prog (w.alloc (.cells #[] 24)) = .ok (.slice a' l.length c') w' ∧ l.length ≤ c' ∧ c' ≤ 9223372036854775807 ∧ MPR w' w.heap.size a' c' l ∧ Below w.heap.size w w' := by
  obtain ⟨i0, hi, hz0, hz1, hz2⟩ := info_parts infoM
  have hb := box_below w (.cells #[] 24)
  have hown : (w.alloc (.cells #[] 24)).ownsRow w.heap.size 24 3 (.slice (some ⟨w.heap.size, 0, none⟩) 0 0) 0 [] :=
    ⟨rfl, .inr ⟨w.heap.size, 0, #[], rfl, Nat.le_refl _, heap_alloc_new w _, Nat.le_refl _, by simp [maxLen], rfl, rfl⟩⟩
  obtain ⟨v', w', h1, h2, h3, h4⟩ := run_append_own (P := Tryd.prog) (w.alloc (.cells #[] 24)) w.heap.size 25 25 24 i0 _ 3 24 Tryd.underlying25 hi hz0 hz1 hz2 rfl (by decide) _ 0 [] hown x l.length cap (cellsM l) (cellsM_length l) (h.below hb).cells (cellsM_one l) (by unfold maxLen; omega) (by omega) (by simp)
  rw [Nat.zero_add, List.nil_append] at h2
  have hB : Below w.heap.size w w' := hb.grown h3 (by simp) (fun k hk => by
    have : k = w.heap.size := by simpa [Value.ownBlock] using hk.symm
    omega)
  rcases h2.2 with ⟨hv, _⟩ | ⟨g, c, cur, hv, hg, hh, hn, hm, hs, ht⟩
  · have := (h4.1 hv).1
    cases this
  · subst hv
    refine ⟨_, c, w', h1, hn, by simpa [maxLen] using hm, .inr ⟨g, cur, rfl, hg, hh, by omega, fun i y hy => ?_⟩, hB⟩
    have hi : i < l.length := (List.getElem?_eq_some_iff.1 hy).1
    obtain ⟨q0, q1, q2⟩ := cellsM_get _ _ _ hy
    rw [← ht] at q0 q1 q2
    rw [List.getElem?_take_of_lt (by omega)] at q0 q1 q2
    exact ⟨by simpa using q0, by simpa using q1, by simpa using q2⟩
/-- A list of merges of one's own. -/
structure OwnM (w : World) (lo : Nat) (a : Option Addr) (c : Nat) (l : List Mg) : Prop where
  le : l.length ≤ c
  cap : c ≤ 9223372036854775807
  row : MPR w lo a c l
theorem OwnM.below {w w' : World} {lo c : Nat} {a : Option Addr} {l : List Mg} (h : OwnM w lo a c l) (hb : Below w.heap.size w w') : OwnM w' lo a c l := ⟨h.le, h.cap, h.row.below hb⟩
theorem OwnM.low {w : World} {lo lo' c : Nat} {a : Option Addr} {l : List Mg} (h : OwnM w lo a c l) (hl : lo' ≤ lo) : OwnM w lo' a c l := ⟨h.le, h.cap, h.row.low hl⟩
theorem OwnM.away {w : World} {lo c : Nat} {a : Option Addr} {l : List Mg} (h : OwnM w lo a c l) {b o : Nat} (hb : b < lo) (v : Value) : OwnM (w.setCell ⟨b, o, none⟩ v) lo a c l := ⟨h.le, h.cap, h.row.away hb v⟩
set_option maxHeartbeats 1000000 in
theorem cloneM_any (a : Option Addr) (cap : Nat) (l : List Mg) (w : World) (hlen : l.length ≤ 5864062014805) (h : MSP w a l) :
    Calls Tryd.prog 64 #[.slice a l.length cap] w fun e w' => ∃ a' c', e = .returned (.slice a' l.length c') ∧ OwnM w' w.heap.size a' c' l ∧ Below w.heap.size w w' := by
  cases a with
  | none =>
    have hl : l = [] := by
      rcases h with h | ⟨b, off, h, _⟩
      · exact h
      · cases h
    subst hl
    have he := eqM_nil_none 0 cap
    simp only [List.length_nil]
    go_enter Tryd.func64, Tryd.ntmps64
    go_wp2_with fail
    go_ret
    exact ⟨none, 0, rfl, ⟨Nat.le_refl _, by omega, .inl ⟨rfl, rfl⟩⟩, Below.refl _ _⟩
  | some x =>
    have he := eqM_nil_some x l.length cap
    obtain ⟨a', c', w', h1, h2, h3, h4, hB⟩ := appM x cap l w hlen h
    clear h
    go_enter Tryd.func64, Tryd.ntmps64
    go_wp2_with (at_builtin; refine wpList_append_run rfl (.tmp 5) (.tmp 6) 25 25 rfl _ _ rfl rfl _ w' h1 ?_)
    go_ret
    exact ⟨a', c', rfl, ⟨h2, h3, h4⟩, hB⟩
/-- A list of spans in memory of one's own, spare room and all. -/
def SPRc (w : World) (lo : Nat) (a : Option Addr) (c : Nat) (l : List Sp) : Prop := (c = 0 ∧ l = []) ∨ ∃ g cur, a = some ⟨g, 0, none⟩ ∧ lo ≤ g ∧ w.heap[g]? = some (.cells cur 27 (0, 0)) ∧ cur.size = c * 2 ∧ ∀ (i : Nat) (x : Sp), l[i]? = some x → cur[i * 2]? = some (.int .i32 x.lo) ∧ cur[i * 2 + 1]? = some (.int .i32 x.hi)
theorem SPRc.below {w w' : World} {lo c : Nat} {a : Option Addr} {l : List Sp} (h : SPRc w lo a c l) (hb : Below w.heap.size w w') : SPRc w' lo a c l := by
  rcases h with h | ⟨g, cur, h1, h2, h3, h4⟩
  · exact .inl h
  · exact .inr ⟨g, cur, h1, h2, (hb.block g (Array.getElem?_eq_some_iff.1 h3).1).trans h3, h4⟩
theorem SPRc.low {w : World} {lo lo' c : Nat} {a : Option Addr} {l : List Sp} (h : SPRc w lo a c l) (hl : lo' ≤ lo) : SPRc w lo' a c l := by
  rcases h with h | ⟨g, cur, h1, h2, h3⟩
  · exact .inl h
  · exact .inr ⟨g, cur, h1, by omega, h3⟩
theorem SPRc.away {w : World} {lo c : Nat} {a : Option Addr} {l : List Sp} (h : SPRc w lo a c l) {b o : Nat} (hb : b < lo) (v : Value) : SPRc (w.setCell ⟨b, o, none⟩ v) lo a c l := by
  rcases h with h | ⟨g, cur, h1, h2, h3, h4⟩
  · exact .inl h
  · exact .inr ⟨g, cur, h1, h2, (Below.heap_setCell w ⟨b, o, none⟩ v g (fun e => by have e' : g = b := e; omega)).trans h3, h4⟩
theorem SPRc.sp {w : World} {lo c : Nat} {a : Option Addr} {l : List Sp} (h : SPRc w lo a c l) : SPS w a l := by
  rcases h with ⟨-, h⟩ | ⟨g, cur, rfl, h2, h3, h4, h5⟩
  · exact .inl h
  · exact .inr ⟨g, 0, rfl, fun i x hx => ⟨by rw [cell_of_block h3, Nat.zero_add]; exact (h5 i x hx).1, by rw [cell_of_block h3, Nat.zero_add]; exact (h5 i x hx).2⟩⟩
/-- Appending spans to a new, empty list. -/
theorem appS (x : Addr) (cap : Nat) (l : List Sp) (w : World) (hlen : l.length ≤ 17592186044416) (h : SPS w (some x) l) :
    ∃ a' c' w', (Builtin.append_ #[28, 28] 28 #[.slice (some ⟨w.heap.size, 0, none⟩) 0 0, .slice (some x) l.length cap]).run Tryd.prog (w.alloc (.cells #[] 27)) = .ok (.slice a' l.length c') w' ∧ l.length ≤ c' ∧ c' ≤ 9223372036854775807 ∧ SPRc w' w.heap.size a' c' l ∧ Below w.heap.size w w' := by
  obtain ⟨i0, hi, hz0, hz1, hz2⟩ := info_parts info26
  have hb := box_below w (.cells #[] 27)
  have hown : (w.alloc (.cells #[] 27)).ownsRow w.heap.size 27 2 (.slice (some ⟨w.heap.size, 0, none⟩) 0 0) 0 [] :=
    ⟨rfl, .inr ⟨w.heap.size, 0, #[], rfl, Nat.le_refl _, heap_alloc_new w _, Nat.le_refl _, by simp [maxLen], rfl, rfl⟩⟩
  obtain ⟨v', w', h1, h2, h3, h4⟩ := run_append_own (P := Tryd.prog) (w.alloc (.cells #[] 27)) w.heap.size 28 28 27 i0 _ 2 8 Tryd.underlying28 hi hz0 hz1 hz2 rfl (by decide) _ 0 [] hown x l.length cap (cellsS l) (cellsS_length l) (h.below hb).cells (cellsS_one l) (by unfold maxLen; omega) (by omega) (by simp)
  rw [Nat.zero_add, List.nil_append] at h2
  have hB : Below w.heap.size w w' := hb.grown h3 (by simp) (fun k hk => by
    have : k = w.heap.size := by simpa [Value.ownBlock] using hk.symm
    omega)
  rcases h2.2 with ⟨hv, _⟩ | ⟨g, c, cur, hv, hg, hh, hn, hm, hs, ht⟩
  · have := (h4.1 hv).1
    cases this
  · subst hv
    refine ⟨_, c, w', h1, hn, by simpa [maxLen] using hm, .inr ⟨g, cur, rfl, hg, hh, by omega, fun i y hy => ?_⟩, hB⟩
    have hi : i < l.length := (List.getElem?_eq_some_iff.1 hy).1
    obtain ⟨q0, q1⟩ := cellsS_get _ _ _ hy
    rw [← ht] at q0 q1
    rw [List.getElem?_take_of_lt (by omega)] at q0 q1
    exact ⟨by simpa using q0, by simpa using q1⟩
/-- A list of spans of one's own. -/
structure OwnS (w : World) (lo : Nat) (a : Option Addr) (c : Nat) (l : List Sp) : Prop where
  le : l.length ≤ c
  cap : c ≤ 9223372036854775807
  row : SPRc w lo a c l
theorem OwnS.below {w w' : World} {lo c : Nat} {a : Option Addr} {l : List Sp} (h : OwnS w lo a c l) (hb : Below w.heap.size w w') : OwnS w' lo a c l := ⟨h.le, h.cap, h.row.below hb⟩
theorem OwnS.low {w : World} {lo lo' c : Nat} {a : Option Addr} {l : List Sp} (h : OwnS w lo a c l) (hl : lo' ≤ lo) : OwnS w lo' a c l := ⟨h.le, h.cap, h.row.low hl⟩
theorem OwnS.away {w : World} {lo c : Nat} {a : Option Addr} {l : List Sp} (h : OwnS w lo a c l) {b o : Nat} (hb : b < lo) (v : Value) : OwnS (w.setCell ⟨b, o, none⟩ v) lo a c l := ⟨h.le, h.cap, h.row.away hb v⟩
set_option maxHeartbeats 1000000 in
theorem cloneS_any (a : Option Addr) (cap : Nat) (l : List Sp) (w : World) (hlen : l.length ≤ 17592186044416) (h : SPS w a l) :
    Calls Tryd.prog 61 #[.slice a l.length cap] w fun e w' => ∃ a' c', e = .returned (.slice a' l.length c') ∧ OwnS w' w.heap.size a' c' l ∧ Below w.heap.size w w' := by
  cases a with
  | none =>
    have hl : l = [] := by
      rcases h with h | ⟨b, off, h, _⟩
      · exact h
      · cases h
    subst hl
    have he := eq_nil_none 0 cap
    simp only [List.length_nil]
    go_enter Tryd.func61, Tryd.ntmps61
    go_wp2_with fail
    go_ret
    exact ⟨none, 0, rfl, ⟨Nat.le_refl _, by omega, .inl ⟨rfl, rfl⟩⟩, Below.refl _ _⟩
  | some x =>
    have he := eq_nil_some x l.length cap
    obtain ⟨a', c', w', h1, h2, h3, h4, hB⟩ := appS x cap l w hlen h
    clear h
    go_enter Tryd.func61, Tryd.ntmps61
    go_wp2_with (at_builtin; refine wpList_append_run rfl (.tmp 5) (.tmp 6) 28 28 rfl _ _ rfl rfl _ w' h1 ?_)
    go_ret
    exact ⟨a', c', rfl, ⟨h2, h3, h4⟩, hB⟩
theorem OwnS.ownL {w : World} {lo c : Nat} {a : Option Addr} {l : List Sp} (h : OwnS w lo a c l) : OwnL w lo a c l := ⟨h.le, h.cap, by
  rcases h.row with ⟨-, h⟩ | ⟨g, cur, h1, h2, h3, h4, h5⟩
  · exact .inl h
  · exact .inr ⟨g, cur, h1, h2, h3, h5⟩⟩
end Go.Proofs.YtjbdhakogbolkaaDoor
end
