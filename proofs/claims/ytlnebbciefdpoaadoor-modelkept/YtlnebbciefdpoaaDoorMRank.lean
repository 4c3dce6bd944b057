/- model.isMade, joined, wrongMerge: their contracts. -/
import Derived.Test.YtlnebbciefdpoaaDoorMRefC
import Derived.Test.YtlnebbciefdpoaaDoorMMap
namespace Go.Proofs.YtlnebbciefdpoaaDoor
open Go.RowKit Go.Sort Go.Joins
set_option linter.unusedVariables false
/-- A row of n bools that f tells. -/
structure MadeAt (w : World) (g n : Nat) (f : Int → Bool) : Prop where
  row : ∃ cur, w.heap[g]? = some (.cells cur 4 (0, 0)) ∧ cur.size = n ∧ ∀ i : Nat, i < n → cur[i]? = some (.bool (f i))
  off : ∀ id : Int, id < 0 ∨ (n : Int) ≤ id → f id = false
theorem MadeAt.lt {w : World} {g n : Nat} {f : Int → Bool} (h : MadeAt w g n f) : g < w.heap.size := by
  obtain ⟨cur, hc, -⟩ := h.row
  exact (Array.getElem?_eq_some_iff.1 hc).1
theorem MadeAt.below {w w' : World} {B g n : Nat} {f : Int → Bool} (h : MadeAt w g n f) (hb : Below B w w') (hg : g < B) : MadeAt w' g n f := by
  obtain ⟨⟨cur, hc, hs, hf⟩, ho⟩ := h
  exact ⟨⟨cur, (hb.block g hg).trans hc, hs, hf⟩, ho⟩
theorem MadeAt.kept {w w' : World} {g n : Nat} {f : Int → Bool} (h : MadeAt w g n f) (hk : w'.heap[g]? = w.heap[g]?) : MadeAt w' g n f := by
  obtain ⟨⟨cur, hc, hs, hf⟩, ho⟩ := h
  exact ⟨⟨cur, hk.trans hc, hs, hf⟩, ho⟩
theorem MadeAt.set {w : World} {g n i : Nat} {f : Int → Bool} (h : MadeAt w g n f) (hi : i < n) : MadeAt (w.setCell ⟨g, i, none⟩ (.bool true)) g n (fun id => id == (i : Int) || f id) := by
  obtain ⟨⟨cur, hc, hs, hf⟩, ho⟩ := h
  refine ⟨⟨_, block_setCell hc _, by simpa using hs, fun j hj => ?_⟩, fun id hid => ?_⟩
  · by_cases e : i = j
    · subst e
      rw [Array.getElem?_setIfInBounds_self_of_lt (by omega)]
      simp
    · rw [Array.getElem?_setIfInBounds_ne e, hf j hj]
      have : ((j : Int) == (i : Int)) = false := by simp; omega
      rw [this]; rfl
  · have : (id == (i : Int)) = false := by simp; omega
    simp only [this, ho id hid]; rfl
theorem MadeAt.congr {w : World} {g n : Nat} {f f' : Int → Bool} (h : MadeAt w g n f) (e : ∀ id, f' id = f id) : MadeAt w g n f' := by
  have : f' = f := funext e
  rw [this]; exact h
set_option maxRecDepth 100000 in
set_option maxHeartbeats 1000000 in
theorem isMade_any (g n : Nat) (f : Int → Bool) (id : Int) (w : World) (hn : n ≤ 4611686018427387904) (h : MadeAt w g n f) :
    Calls Tryd.prog 76 #[.slice (some ⟨g, 0, none⟩) n n, .int .i64 id] w fun e w' => e = .returned (.bool (f id)) ∧ w' = w := by
  by_cases h0 : id < 0
  · rw [h.off id (.inl h0)]
    have hd : decide (0 ≤ id) = false := decide_eq_false (by omega)
    clear h
    go_enter Tryd.func76, Tryd.ntmps76
    go_wp2_with fail
    go_ret
    exact ⟨rfl, rfl⟩
  · have hd : decide (0 ≤ id) = true := decide_eq_true (by omega)
    by_cases h1 : id < n
    · obtain ⟨k, rfl⟩ : ∃ k : Nat, id = k := ⟨id.toNat, by omega⟩
      have hd1 : decide ((k : Int) < (n : Int)) = true := decide_eq_true h1
      obtain ⟨cur, hc, hs, hf⟩ := h.row
      have q0 := cell_of_block hc k
      rw [hf k (by omega)] at q0
      obtain ⟨v, hv⟩ : ∃ v, v = f k := ⟨_, rfl⟩
      rw [← hv] at q0 ⊢
      clear h hc hs hf hv
      go_enter Tryd.func76, Tryd.ntmps76
      go_wp2_with fail
      go_ret
      exact ⟨rfl, rfl⟩
    · rw [h.off id (.inr (by omega))]
      have hd1 : decide (id < (n : Int)) = false := decide_eq_false (by omega)
      clear h
      go_enter Tryd.func76, Tryd.ntmps76
      go_wp2_with fail
      go_ret
      exact ⟨rfl, rfl⟩
set_option maxRecDepth 100000 in
set_option maxHeartbeats 1000000 in
theorem joined_any (g cw : Nat) (aw : Option Addr) (ws : List ByteArray) (l r : Int) (w : World) (hn : ws.length ≤ 4611686018427387904) (hz6 : ∀ (i : Nat) (x : ByteArray), ws[i]? = some x → x.size ≤ 256) (h : w.cell? ⟨g, 0, none⟩ = some (.slice aw ws.length cw)) (hW : WSP w aw ws) :
    Calls Tryd.prog 77 #[.pointer (some ⟨g, 0, none⟩), .int .i64 l, .int .i64 r] w fun e w' => e = .returned (.string (joinM ws l r)) ∧ Below w.heap.size w w' := by
  have hs1 := wordM_size hz6 l
  have hs2 := wordM_size hz6 r
  have H := fun (wx : World) id h hW => word_any g cw aw ws id wx hn h hW
  unfold joinM
  obtain ⟨S1, hS1⟩ : ∃ S, S = (wordM ws l).getD ⟨#[]⟩ := ⟨_, rfl⟩
  obtain ⟨T1, hT1⟩ : ∃ S, S = (wordM ws l).isSome := ⟨_, rfl⟩
  obtain ⟨S2, hS2⟩ : ∃ S, S = (wordM ws r).getD ⟨#[]⟩ := ⟨_, rfl⟩
  obtain ⟨T2, hT2⟩ : ∃ S, S = (wordM ws r).isSome := ⟨_, rfl⟩
  have H1 : ∀ wx, wx.cell? ⟨g, 0, none⟩ = some (.slice aw ws.length cw) → WSP wx aw ws → Calls Tryd.prog 12 #[.pointer (some ⟨g, 0, none⟩), .int .i64 l] wx fun e w' => e = .returned (.tuple #[.string S1, .bool T1]) ∧ Below wx.heap.size wx w' := by
    intro wx h1 h2
    have := H wx l h1 h2
    unfold wdV at this
    rw [← hS1, ← hT1] at this
    exact this
  have H2 : ∀ wx, wx.cell? ⟨g, 0, none⟩ = some (.slice aw ws.length cw) → WSP wx aw ws → Calls Tryd.prog 12 #[.pointer (some ⟨g, 0, none⟩), .int .i64 r] wx fun e w' => e = .returned (.tuple #[.string S2, .bool T2]) ∧ Below wx.heap.size wx w' := by
    intro wx h1 h2
    have := H wx r h1 h2
    unfold wdV at this
    rw [← hS2, ← hT2] at this
    exact this
  rw [← hS1] at hs1 ⊢
  rw [← hS2] at hs2 ⊢
  clear hS1 hS2 hT1 hT2 H
  have hk := World.block_lt_of_cell? w _ h
  go_enter Tryd.func77, Tryd.ntmps77
  go_wp2_with fail
  refine (H1 _ h hW).mono ?_
  rintro e w1 ⟨rfl, hb1⟩
  have h1 := (hb1.cell (p := ⟨g, 0, none⟩) hk).trans h
  have hW1 := hW.below hb1
  clear H1 hW h
  go_wp2_with fail
  refine (H2 _ h1 hW1).mono ?_
  rintro e w2 ⟨rfl, hb2⟩
  clear H2 hW1 h1
  go_wp2_with fail
  go_ret
  exact ⟨rfl, hb1.trans (hb2.mono hb1.size)⟩
set_option maxRecDepth 100000 in
set_option maxHeartbeats 4000000 in
theorem wrongMerge_any (g mg cw k : Nat) (aw : Option Addr) (ws : List ByteArray) (ms : List Mg) (x : Mg) (w : World) (hn : ws.length ≤ 4611686018427387648) (hz6 : ∀ (i : Nat) (x : ByteArray), ws[i]? = some x → x.size ≤ 256) (hx : ms[k]? = some x)
    (h : w.cell? ⟨g, 0, none⟩ = some (.slice aw ws.length cw)) (hW : WSP w aw ws) (hM : MadeAt w mg (256 + ws.length) (madeM ms k)) :
    Calls Tryd.prog 66 #[.pointer (some ⟨g, 0, none⟩), .agg #[.int .i64 x.l, .int .i64 x.r, .int .i64 x.i], .slice (some ⟨mg, 0, none⟩) (256 + ws.length) (256 + ws.length)] w fun e w' => e = .returned (.int .i64 (cutM ws ms k : Nat)) ∧ Below w.heap.size w w' := by
  have hk := World.block_lt_of_cell? w _ h
  have hmk := hM.lt
  have HX : Hid (ms[k]? = some x) := hx
  have HW := fun (wx : World) h hW => word_any g cw aw ws x.i wx (by omega) h hW
  have HI := fun id (wx : World) h => isMade_any mg (256 + ws.length) (madeM ms k) id wx (by omega) h
  have HJ := fun (wx : World) h hW => joined_any g cw aw ws x.l x.r wx (by omega) hz6 h hW
  have hR := RM.start x (Below.refl w.heap.size w)
  have hD := box_below w (.cells #[.int .i64 x.l, .int .i64 x.r, .int .i64 x.i] 36)
  have h1 := (hD.cell (p := ⟨g, 0, none⟩) hk).trans h
  have hW1 := hW.below hD
  have hM1 := hM.below hD hmk
  have m2 := hR.m2
  have HR : Hid (RM w (w.alloc (.cells #[.int .i64 x.l, .int .i64 x.r, .int .i64 x.i] 36)) w.heap.size x) := hR
  have HD := hD
  clear hx h hW hM hR hD hz6
  obtain ⟨E, hE⟩ : ∃ E, E = cutM ws ms k := ⟨_, rfl⟩
  have HE : Hid (E = cutM ws ms k) := hE
  rw [← hE]
  clear hE
  go_enter Tryd.func66, Tryd.ntmps66
  go_wp2_with fail
  refine (HW _ h1 hW1).mono ?_
  rintro e w1 ⟨rfl, hb1⟩
  have hR := HR.out.next hb1
  have h2 := (hb1.cell (p := ⟨g, 0, none⟩) (by simp; omega)).trans h1
  have hW2 := hW1.below hb1
  have hM2 := hM1.below hb1 (by simp; omega)
  have m0 := hR.m0
  have m1 := hR.m1
  have m2 := hR.m2
  have hbl := hR.bel
  obtain ⟨xb, hxb⟩ : ∃ xb, xb = w.heap.size := ⟨_, rfl⟩
  rw [← hxb] at m0 m1 m2 ⊢
  have hmk2 : mg < w1.heap.size := hM2.lt
  have hgk2 : g < w1.heap.size := World.block_lt_of_cell? w1 _ h2
  have HR2 : Hid (RM w w1 xb x) := by rw [hxb]; exact hR
  clear hxb hR HR HD hb1 h1 hW1 hM1 HW
  unfold wdV
  obtain ⟨o, ho⟩ : ∃ o, o = wordM ws x.i := ⟨_, rfl⟩
  rw [← ho]
  have HO : Hid (o = wordM ws x.i) := ho
  clear ho
  cases o with
  | none =>
    have he : cutM ws ms k = 24 := cutM_24 HX.out (by
      have := HO.out
      unfold wordM at this
      by_cases h0 : 0 ≤ x.i ∧ x.i < 256
      · rw [if_pos h0] at this; cases this
      · rw [if_neg h0] at this
        by_cases h1 : 256 ≤ x.i
        · rw [if_pos h1] at this
          have := List.getElem?_eq_none_iff.1 this.symm
          omega
        · omega)
    have HE2 : Hid (E = 24) := HE.out.trans he
    clear he h2 hW2 hM2 m0 m1 m2
    simp only [Option.getD_none, Option.isSome_none]
    go_wp2_with fail
    go_ret
    exact ⟨by rw [HE2.out]; rfl, hbl⟩
  | some X =>
    simp only [Option.getD_some, Option.isSome_some]
    have hin : 0 ≤ x.i ∧ x.i < 256 + ws.length := by
      have := HO.out
      unfold wordM at this
      by_cases h0 : 0 ≤ x.i ∧ x.i < 256
      · omega
      · rw [if_neg h0] at this
        by_cases h1 : 256 ≤ x.i
        · rw [if_pos h1] at this
          have := (List.getElem?_eq_some_iff.1 this.symm).1
          omega
        · rw [if_neg h1] at this; cases this
    obtain ⟨q, hq⟩ : ∃ q : Nat, x.i = q := ⟨x.i.toNat, by omega⟩
    have HQ : Hid (x.i = (q : Int)) := hq
    rw [hq] at m2
    obtain ⟨cur, hc, hs, hf⟩ := hM2.row
    have c0 := cell_of_block hc q
    rw [hf q (by omega)] at c0
    have hql : q < 256 + ws.length := by omega
    obtain ⟨v, hv⟩ : ∃ v, v = madeM ms k (q : Int) := ⟨_, rfl⟩
    rw [← hv] at c0
    have HV : Hid (v = madeM ms k x.i) := by rw [hv, hq]; exact rfl
    clear hv hc hs hf hin hq
    cases v with
    | true =>
      have he : E = 24 := HE.out.trans (cutM_24 HX.out (.inr (.inr HV.out.symm)))
      have HE2 : Hid (E = 24) := he
      clear he h2 hW2 hM2 m0 m1
      go_wp2_with fail
      go_ret
      exact ⟨by rw [HE2.out]; rfl, hbl⟩
    | false =>
      have hno : ¬ (x.i < 256 ∨ (ws.length : Int) ≤ x.i - 256 ∨ madeM ms k x.i = true) := by
        have h1 := HV.out.symm
        rintro (h | h | h)
        · unfold madeM at h1
          have e1 : decide (0 ≤ x.i) = true := decide_eq_true (by rw [HQ.out]; omega)
          rw [e1, decide_eq_true h] at h1
          cases h1
        · have := HQ.out; omega
        · rw [h1] at h; cases h
      have HN : Hid (¬ (x.i < 256 ∨ (ws.length : Int) ≤ x.i - 256 ∨ madeM ms k x.i = true)) := hno
      clear hno
      go_wp2_with fail
      refine (HI _ _ hM2).mono ?_
      rintro e w2 ⟨rfl, he⟩
      obtain rfl := he.symm
      clear c0
      obtain ⟨v1, hv1⟩ : ∃ v, v = madeM ms k x.l := ⟨_, rfl⟩
      rw [← hv1]
      have HV1 : Hid (v1 = madeM ms k x.l) := hv1
      clear hv1
      cases v1 with
      | false =>
        have he : E = 23 := HE.out.trans (cutM_23 HX.out HN.out (.inl HV1.out.symm))
        have HE2 : Hid (E = 23) := he
        clear he h2 hW2 hM2 m0 m1 m2
        go_wp2_with fail
        go_ret
        exact ⟨by rw [HE2.out]; rfl, hbl⟩
      | true =>
        go_wp2_with fail
        refine (HI _ _ hM2).mono ?_
        rintro e w3 ⟨rfl, he⟩
        obtain rfl := he.symm
        obtain ⟨v2, hv2⟩ : ∃ v, v = madeM ms k x.r := ⟨_, rfl⟩
        rw [← hv2]
        have HV2 : Hid (v2 = madeM ms k x.r) := hv2
        clear hv2
        cases v2 with
        | false =>
          have he : E = 23 := HE.out.trans (cutM_23 HX.out HN.out (.inr HV2.out.symm))
          have HE2 : Hid (E = 23) := he
          clear he h2 hW2 hM2 m0 m1 m2
          go_wp2_with fail
          go_ret
          exact ⟨by rw [HE2.out]; rfl, hbl⟩
        | true =>
          have hno2 : ¬ (madeM ms k x.l = false ∨ madeM ms k x.r = false) := by
            rintro (h | h)
            · rw [h] at HV1; exact absurd HV1.out (by decide)
            · rw [h] at HV2; exact absurd HV2.out (by decide)
          have HN2 : Hid (¬ (madeM ms k x.l = false ∨ madeM ms k x.r = false)) := hno2
          clear hno2
          go_wp2_with fail
          refine (HJ _ h2 hW2).mono ?_
          rintro e w4 ⟨rfl, hb4⟩
          have hB4 := hbl.trans (hb4.mono hbl.size)
          clear h2 hW2 hM2 m0 m1 m2
          obtain ⟨J, hJ⟩ : ∃ J, J = joinM ws x.l x.r := ⟨_, rfl⟩
          rw [← hJ]
          have HJ2 : Hid (J = joinM ws x.l x.r) := hJ
          have hq : (X.toList == J.toList) = decide (X = J) := strEq_dec X J
          obtain ⟨u, hu⟩ : ∃ u, u = decide (X = J) := ⟨_, rfl⟩
          rw [← hu] at hq
          have HU : Hid (u = decide (X = J)) := hu
          clear hu hJ
          cases u with
          | false =>
            have he : E = 25 := HE.out.trans (cutM_25 HX.out HN.out HN2.out (by rw [← HO.out, ← HJ2.out]; intro e; exact of_decide_eq_false HU.out.symm (Option.some.inj e)))
            have HE2 : Hid (E = 25) := he
            clear he
            go_wp2_with fail
            go_ret
            exact ⟨by rw [HE2.out]; rfl, hB4⟩
          | true =>
            have he : E = 0 := HE.out.trans (cutM_ok HX.out HN.out HN2.out (by rw [← HO.out, ← HJ2.out, of_decide_eq_true HU.out.symm]))
            have HE2 : Hid (E = 0) := he
            clear he
            go_wp2_with fail
            go_ret
            exact ⟨by rw [HE2.out]; rfl, hB4⟩
end Go.Proofs.YtlnebbciefdpoaaDoor
