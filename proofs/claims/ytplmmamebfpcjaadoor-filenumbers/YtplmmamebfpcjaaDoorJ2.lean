import Derived.Test.YtplmmamebfpcjaaDoorJ1
import Derived.Lib.QuietBelow
import Derived.Lib.SmallJoins
import Derived.Test.YtplmmamebfpcjaaDoorJ0
section
/- spans.common, spans.isRune: their contracts. -/
namespace Go.Proofs.YtplmmamebfpcjaaDoor
open Go.RowKit Go.Sort
set_option maxHeartbeats 1000000 in
theorem common_any (x y : Sp) (w : World) (hG : GL w) : Calls Tryd.prog 74 #[spv x, spv y] w fun e w' => e = .returned (spv (comL x y)) ∧ Below w.heap.size w w' := by
  obtain ⟨g0, g1, -⟩ := hG.cells
  clear hG
  have hA0 := cell_alloc_s g0
  have hA1 := cell_alloc_s g1
  have hA2 := fun o => cell_alloc_s (hA0 o)
  have hA3 := fun o => cell_alloc_s (hA1 o)
  have hm : max x.lo y.lo = (if x.lo < y.lo then y.lo else x.lo) := by split <;> omega
  have hn : min x.hi y.hi = (if y.hi < x.hi then y.hi else x.hi) := by split <;> omega
  unfold comL
  rw [hm, hn]
  obtain ⟨m, hM⟩ : ∃ m, (if x.lo < y.lo then y.lo else x.lo) = m := ⟨_, rfl⟩
  obtain ⟨n, hN⟩ : ∃ n, (if y.hi < x.hi then y.hi else x.hi) = n := ⟨_, rfl⟩
  rw [hM, hN]
  clear hm hn g0 g1
  have hb : ∀ a b c d : Obj, Below w.heap.size w ((((w.alloc a).alloc b).alloc c).alloc d) := fun a b c d => ((((Below.refl _ w).alloc (Nat.le_refl _) a).alloc (by simp) b).alloc (by simp; omega) c).alloc (by simp; omega) d
  unfold spv
  by_cases hlt : n < m
  · rw [if_pos hlt]
    go_enter Tryd.func74, Tryd.ntmps74
    go_wp2_with fail
    exact bodyPost_ret (v := spv ⟨0, -1⟩) (by simp [results, Tryd.results74, go_sem, spv]) rfl ⟨rfl, hb _ _ _ _⟩
  · rw [if_neg hlt]
    go_enter Tryd.func74, Tryd.ntmps74
    go_wp2_with fail
    exact bodyPost_ret (v := spv ⟨m, n⟩) (by simp [results, Tryd.results74, go_sem, spv]) rfl ⟨rfl, hb _ _ _ _⟩
/-- The array of all runes, its two spans. -/
theorem part0 (W : World) : (Instr.index 151 (.agg #[.int .i32 0, .int .i32 55295, .int .i32 57344, .int .i32 1114111]) (.int .i64 0)).run Tryd.prog W = .ok (.agg #[.int .i32 0, .int .i32 55295]) W := by kernel_rfl
theorem part1 (W : World) : (Instr.index 151 (.agg #[.int .i32 0, .int .i32 55295, .int .i32 57344, .int .i32 1114111]) (.int .i64 1)).run Tryd.prog W = .ok (.agg #[.int .i32 57344, .int .i32 1114111]) W := by kernel_rfl
set_option maxHeartbeats 1000000 in
theorem isRune_any (r : Int) (w : World) (hG : GL w) : Calls Tryd.prog 73 #[.int .i32 r] w fun e w' => e = .returned (.bool (runeB r)) ∧ Below w.heap.size w w' := by
  have hG0 := hG.below ((Below.refl w.heap.size w).alloc (Nat.le_refl _) (.cells #[.int .i32 r, .int .i32 r] 40))
  have hr : runeB r = true ↔ (0 ≤ r ∧ r ≤ 55295) ∨ (57344 ≤ r ∧ r ≤ 1114111) := by rw [runeB_iff]; omega
  obtain ⟨B, hB⟩ : ∃ B, runeB r = B := ⟨_, rfl⟩
  rw [hB] at hr ⊢
  clear hB
  have hp0 := part0
  have hp1 := part1
  obtain ⟨-, -, g2, g3, g4, g5, -⟩ := hG.cells
  have g2 := cell_alloc_s g2
  have g3 := cell_alloc_s g3
  have g4 := cell_alloc_s g4
  have g5 := cell_alloc_s g5
  clear hG
  go_enter Tryd.func73, Tryd.ntmps73
  have hb0 : Below w.heap.size w (w.alloc (.cells #[.int .i32 r, .int .i32 r] 40)) := (Below.refl _ _).alloc (Nat.le_refl _) _
  have hs0 : w.heap.size < (w.alloc (.cells #[.int .i32 r, .int .i32 r] 40)).heap.size := by simp
  have ho0 : SpAt (w.alloc (.cells #[.int .i32 r, .int .i32 r] 40)) w.heap.size 0 ⟨r, r⟩ := ⟨by simp [go_sem], by simp [go_sem]⟩
  go_wp2_with fail
  clear g2 g3 g4 g5
  obtain ⟨W0, hW0⟩ : ∃ W0, W0 = w.alloc (.cells #[.int .i32 r, .int .i32 r] 40) := ⟨_, rfl⟩
  rw [← hW0] at hG0 hb0 hs0 ho0 ⊢
  clear hW0
  go_loopw [10] (fun i wr => ∃ k : Nat, k ≤ 2 ∧ i = .int .i64 k ∧ Below w.heap.size w wr ∧ w.heap.size < wr.heap.size ∧ SpAt wr w.heap.size 0 ⟨r, r⟩ ∧ GL wr ∧ (0 < k → ¬ (0 ≤ r ∧ r ≤ 55295)) ∧ (1 < k → ¬ (57344 ≤ r ∧ r ≤ 1114111))) (fun i _ => 2 - (intOf i).toNat)
  case atStart => exact ⟨0, Nat.zero_le _, rfl, hb0, hs0, ho0, hG0, by omega, by omega⟩
  case round =>
    clear hG0 hb0 hs0 ho0
    obtain ⟨k, hk, rfl, hb, hsz, ⟨c0, c1⟩, hGr, n0, n1⟩ := hrel
    match k, hk with
    | 0, _ =>
      have q : spEq (comL ⟨r, r⟩ ⟨0, 55295⟩) ⟨r, r⟩ = (decide (0 ≤ r) && decide (r ≤ 55295)) := com_one r ⟨0, 55295⟩
      have hb2 : Below w.heap.size w (wr.alloc (.cells #[.int .i32 0, .int .i32 55295] 40)) := hb.alloc hb.size _
      have hG2 : GL (wr.alloc (.cells #[.int .i32 0, .int .i32 55295] 40)) := hGr.below ((Below.refl _ wr).alloc (Nat.le_refl _) _)
      have o2 : SpAt (wr.alloc (.cells #[.int .i32 0, .int .i32 55295] 40)) w.heap.size 0 ⟨r, r⟩ := SpAt.below ⟨c0, c1⟩ ((Below.refl _ wr).alloc (Nat.le_refl _) _)
      have p2 : SpAt (wr.alloc (.cells #[.int .i32 0, .int .i32 55295] 40)) wr.heap.size 0 ⟨0, 55295⟩ := ⟨by simp [go_sem], by simp [go_sem]⟩
      have s2 : w.heap.size < (wr.alloc (.cells #[.int .i32 0, .int .i32 55295] 40)).heap.size := by simp; omega
      go_wp2_with fail
      obtain ⟨W, hW⟩ : ∃ W, W = wr.alloc (.cells #[.int .i32 0, .int .i32 55295] 40) := ⟨_, rfl⟩
      rw [← hW] at hb2 hG2 o2 p2 s2 ⊢
      clear hW c0 c1 hb hsz hGr hp0 hp1
      have HC := fun d os => common_any ⟨r, r⟩ ⟨0, 55295⟩ (grow (redrawn W d) os) (hG2.below (below_regrown W d os))
      unfold spv at HC
      obtain ⟨v, hv⟩ : ∃ v, spEq (comL ⟨r, r⟩ ⟨0, 55295⟩) ⟨r, r⟩ = v := ⟨_, rfl⟩
      rw [hv] at q
      have HQ : Hid (v = (decide (0 ≤ r) && decide (r ≤ 55295))) := q
      clear q
      have HE := eqIn_sp (comL ⟨r, r⟩ ⟨0, 55295⟩) ⟨r, r⟩ v hv
      have HF := eql_sp (comL ⟨r, r⟩ ⟨0, 55295⟩) ⟨r, r⟩ v hv
      clear hv
      obtain ⟨c, hc⟩ : ∃ c, c = comL ⟨r, r⟩ ⟨0, 55295⟩ := ⟨_, rfl⟩
      rw [← hc] at HC HE HF
      clear hc
      have H2 := o2
      obtain ⟨k0, k1⟩ := o2
      obtain ⟨l0, l1⟩ := p2
      have k0 := cell_regrown k0
      have k1 := cell_regrown k1
      have l0 := cell_regrown l0
      have l1 := cell_regrown l1
      dsimp only at k0 k1 l0 l1 HE HF HC
      refine wp_region_quiet_below (by kernel_rfl) (by kernel_rfl) ?_
      repeat (go_big_quiet_step ((go_at_call 74; exact Calls.regrown_of (HC _ _))))
      refine wpQuiet_nil ?_
      intro W5 hw'
      have hb5 : Below W.heap.size W W5 := by
        obtain ⟨⟨dq, osq⟩, rfl⟩ := hw'
        exact below_regrown _ _ _
      clear hw' k0 k1 l0 l1 HE HF HC
      cases v with
      | true =>
        have hBt : B = true := hr.2 (by have q := HQ.out.symm; simp at q; omega)
        subst hBt
        clear HQ hr n0 n1
        go_wp2_with fail
        go_ret
        exact ⟨rfl, hb2.trans (hb5.mono hb2.size)⟩
      | false =>
        have hn : ¬ (0 ≤ r ∧ r ≤ 55295) := fun ⟨h1, h2⟩ => by have q := HQ.out; rw [decide_eq_true h1, decide_eq_true h2] at q; cases q
        clear HQ
        go_wp2_with fail
        exact ⟨⟨1, by omega, rfl, hb2.trans (hb5.mono hb2.size), Nat.lt_of_lt_of_le s2 hb5.size, H2.below hb5, hG2.below hb5, fun _ => hn, fun h => absurd h (by omega)⟩, by simp [intOf]⟩
    | 1, _ =>
      have q : spEq (comL ⟨r, r⟩ ⟨57344, 1114111⟩) ⟨r, r⟩ = (decide (57344 ≤ r) && decide (r ≤ 1114111)) := com_one r ⟨57344, 1114111⟩
      have hb2 : Below w.heap.size w (wr.alloc (.cells #[.int .i32 57344, .int .i32 1114111] 40)) := hb.alloc hb.size _
      have hG2 : GL (wr.alloc (.cells #[.int .i32 57344, .int .i32 1114111] 40)) := hGr.below ((Below.refl _ wr).alloc (Nat.le_refl _) _)
      have o2 : SpAt (wr.alloc (.cells #[.int .i32 57344, .int .i32 1114111] 40)) w.heap.size 0 ⟨r, r⟩ := SpAt.below ⟨c0, c1⟩ ((Below.refl _ wr).alloc (Nat.le_refl _) _)
      have p2 : SpAt (wr.alloc (.cells #[.int .i32 57344, .int .i32 1114111] 40)) wr.heap.size 0 ⟨57344, 1114111⟩ := ⟨by simp [go_sem], by simp [go_sem]⟩
      have s2 : w.heap.size < (wr.alloc (.cells #[.int .i32 57344, .int .i32 1114111] 40)).heap.size := by simp; omega
      go_wp2_with fail
      obtain ⟨W, hW⟩ : ∃ W, W = wr.alloc (.cells #[.int .i32 57344, .int .i32 1114111] 40) := ⟨_, rfl⟩
      rw [← hW] at hb2 hG2 o2 p2 s2 ⊢
      clear hW c0 c1 hb hsz hGr hp0 hp1
      have HC := fun d os => common_any ⟨r, r⟩ ⟨57344, 1114111⟩ (grow (redrawn W d) os) (hG2.below (below_regrown W d os))
      unfold spv at HC
      obtain ⟨v, hv⟩ : ∃ v, spEq (comL ⟨r, r⟩ ⟨57344, 1114111⟩) ⟨r, r⟩ = v := ⟨_, rfl⟩
      rw [hv] at q
      have HQ : Hid (v = (decide (57344 ≤ r) && decide (r ≤ 1114111))) := q
      clear q
      have HE := eqIn_sp (comL ⟨r, r⟩ ⟨57344, 1114111⟩) ⟨r, r⟩ v hv
      have HF := eql_sp (comL ⟨r, r⟩ ⟨57344, 1114111⟩) ⟨r, r⟩ v hv
      clear hv
      obtain ⟨c, hc⟩ : ∃ c, c = comL ⟨r, r⟩ ⟨57344, 1114111⟩ := ⟨_, rfl⟩
      rw [← hc] at HC HE HF
      clear hc
      have H2 := o2
      obtain ⟨k0, k1⟩ := o2
      obtain ⟨l0, l1⟩ := p2
      have k0 := cell_regrown k0
      have k1 := cell_regrown k1
      have l0 := cell_regrown l0
      have l1 := cell_regrown l1
      dsimp only at k0 k1 l0 l1 HE HF HC
      refine wp_region_quiet_below (by kernel_rfl) (by kernel_rfl) ?_
      repeat (go_big_quiet_step ((go_at_call 74; exact Calls.regrown_of (HC _ _))))
      refine wpQuiet_nil ?_
      intro W5 hw'
      have hb5 : Below W.heap.size W W5 := by
        obtain ⟨⟨dq, osq⟩, rfl⟩ := hw'
        exact below_regrown _ _ _
      clear hw' k0 k1 l0 l1 HE HF HC
      cases v with
      | true =>
        have hBt : B = true := hr.2 (by have q := HQ.out.symm; simp at q; omega)
        subst hBt
        clear HQ hr n0 n1
        go_wp2_with fail
        go_ret
        exact ⟨rfl, hb2.trans (hb5.mono hb2.size)⟩
      | false =>
        have hn : ¬ (57344 ≤ r ∧ r ≤ 1114111) := fun ⟨h1, h2⟩ => by have q := HQ.out; rw [decide_eq_true h1, decide_eq_true h2] at q; cases q
        clear HQ
        go_wp2_with fail
        exact ⟨⟨2, by omega, rfl, hb2.trans (hb5.mono hb2.size), Nat.lt_of_lt_of_le s2 hb5.size, H2.below hb5, hG2.below hb5, fun _ => n0 (by omega), fun _ => hn⟩, by simp [intOf]⟩
    | 2, _ =>
      have hBf : B = false := by
        cases B with
        | false => rfl
        | true => exact absurd (hr.1 rfl) (by have := n0 (by omega); have := n1 (by omega); omega)
      subst hBf
      clear c0 c1 hGr hr n0 n1
      go_wp2_with fail
      go_ret
      exact ⟨rfl, hb⟩
end Go.Proofs.YtplmmamebfpcjaaDoor
end
section
/- spans.Right, the document's own Rune and Right: their contracts. -/
namespace Go.Proofs.YtplmmamebfpcjaaDoor
open Go.RowKit Go.Sort
theorem badAt_14 {l : List Sp} {k : Nat} {x : Sp} (hx : l[k]? = some x) (h : runeB x.lo = false ∨ runeB x.hi = false) : badAt l k = 14 := by
  unfold badAt; rw [hx]; simp only; rw [if_pos h]
theorem badAt_15a {l : List Sp} {k : Nat} {x : Sp} (hx : l[k]? = some x) (h1 : runeB x.lo = true) (h2 : runeB x.hi = true) (h : x.hi < x.lo) : badAt l k = 15 := by
  unfold badAt; rw [hx]; simp only; rw [if_neg (by rw [h1, h2]; simp), if_pos h]
theorem badAt_15b {l : List Sp} {k : Nat} {x y : Sp} (hx : l[k + 1]? = some x) (hy : l[k]? = some y) (h1 : runeB x.lo = true) (h2 : runeB x.hi = true) (h : x.lo ≤ y.hi) : badAt l (k + 1) = 15 := by
  unfold badAt; rw [hx]; simp only [hy]; rw [if_neg (by rw [h1, h2]; simp)]; split
  · rfl
  · first | rfl | rw [if_pos h]
theorem badAt_0 {l : List Sp} {x : Sp} (hx : l[0]? = some x) (h1 : runeB x.lo = true) (h2 : runeB x.hi = true) (h : ¬ x.hi < x.lo) : badAt l 0 = 0 := by
  unfold badAt; rw [hx]; simp only; rw [if_neg (by rw [h1, h2]; simp), if_neg h]
theorem badAt_s {l : List Sp} {k : Nat} {x y : Sp} (hx : l[k + 1]? = some x) (hy : l[k]? = some y) (h1 : runeB x.lo = true) (h2 : runeB x.hi = true) (h : ¬ x.hi < x.lo) (h' : ¬ x.lo ≤ y.hi) : badAt l (k + 1) = 0 := by
  unfold badAt; rw [hx]; simp only [hy]; rw [if_neg (by rw [h1, h2]; simp), if_neg h, if_neg h']
/-- The rows ahead of k may stand there. -/
def Free (l : List Sp) (k : Nat) : Prop := ∀ j, j < k → badAt l j = 0
theorem Free.zero (l : List Sp) : Free l 0 := fun _ hj => absurd hj (Nat.not_lt_zero _)
theorem Free.succ {l : List Sp} {k : Nat} (h : Free l k) (h0 : badAt l k = 0) : Free l (k + 1) := fun j hj => by
  by_cases e : j = k
  · subst e; exact h0
  · exact h j (by omega)
/-- A right answer, as it is told. -/
def rowV (r : Nat × Nat) : Value := .tuple #[.int .i64 (r.1 : Nat), .int .i64 (r.2 : Nat)]
theorem rowV_at {l : List Sp} {k e : Nat} (hk : k < l.length) (hf : Free l k) (he : badAt l k = e) (h0 : e ≠ 0) : rowV (rightA l) = .tuple #[.int .i64 (k : Nat), .int .i64 (e : Nat)] := by
  rw [rightA_some hk hf (by rw [he]; exact h0), he]; rfl
theorem rowV_none {l : List Sp} (hf : Free l l.length) : rowV (rightA l) = .tuple #[.int .i64 0, .int .i64 0] := by
  rw [rightA_none hf]; rfl
set_option maxHeartbeats 2000000 in
theorem right_any (a : Option Addr) (cap : Nat) (l : List Sp) (w : World) (hlen : l.length ≤ 9223372036854775807) (h : SPS w a l) (hG : GL w) :
    Calls Tryd.prog 66 #[.slice a l.length cap] w fun e w' => e = .returned (rowV (rightA l)) ∧ Below w.heap.size w w' := by
  obtain ⟨n, hn⟩ : ∃ n, n = l.length := ⟨_, rfl⟩
  have HN : Hid (n = l.length) := hn
  rw [← hn] at hlen ⊢
  clear hn
  obtain ⟨R, hR⟩ : ∃ R, R = rowV (rightA l) := ⟨_, rfl⟩
  have HR : Hid (R = rowV (rightA l)) := hR
  rw [← hR]
  clear hR
  go_enter Tryd.func66, Tryd.ntmps66
  go_wp2
  go_loopw [8] (fun i wr => ∃ k : Nat, k ≤ n ∧ i = .int .i64 k ∧ Below w.heap.size w wr ∧ Free l k) (fun i _ => n - (intOf i).toNat)
  case atStart => exact ⟨0, Nat.zero_le _, rfl, Below.refl _ _, Free.zero l⟩
  case round =>
    obtain ⟨k, hk, rfl, hbr, hF⟩ := hrel
    by_cases hlt : k < n
    · have hkl : k < l.length := by rw [← HN.out]; exact hlt
      have hGr := hG.below hbr
      rcases h with h | ⟨b, off, rfl, hc⟩
      · subst h; simp at hkl
      obtain ⟨x, hx⟩ : ∃ x, l[k]? = some x := ⟨l[k], List.getElem?_eq_getElem hkl⟩
      obtain ⟨c0, c1⟩ := (hc k x hx).below hbr
      have HC : Hid (∀ i x, l[i]? = some x → SpAt w b (off + i * 2) x) := hc
      have HX : Hid (l[k]? = some x) := hx
      have hgt : (decide (0 < k)) = decide (0 < k) := rfl
      clear hc hx hG hgt
      go_wp2_with fail
      refine (isRune_any x.lo _ (hGr.below ((Below.refl _ wr).alloc (Nat.le_refl _) _))).mono ?_
      rintro e w1 ⟨rfl, hb1⟩
      have p1 : SpAt w1 wr.heap.size 0 x := SpAt.below ⟨by simp [go_sem], by simp [go_sem]⟩ hb1
      have hG1 := (hGr.below ((Below.refl _ wr).alloc (Nat.le_refl _) _)).below hb1
      have hB1 : Below w.heap.size w w1 := (hbr.alloc hbr.size _).trans (hb1.mono (by simp; have := hbr.size; omega))
      clear hb1 hGr
      obtain ⟨q0, q1⟩ := p1
      rw [Nat.zero_add] at q1
      have RET : ∀ (e : Nat) (W : World), Below w.heap.size w W → badAt l k = e → e ≠ 0 → Hid (R = .tuple #[.int .i64 (k : Nat), .int .i64 (e : Nat)]) := fun e W _ he h0 => by
        rw [HR.out]; exact rowV_at hkl hF he h0
      cases hr1 : runeB x.lo with
      | false =>
        have hE := RET 14 _ hB1 (badAt_14 HX.out (.inl hr1)) (by decide)
        clear hr1 q0 q1 c0 c1 RET
        go_wp2_with fail
        exact bodyPost_ret (v := .tuple #[.int .i64 (k : Nat), .int .i64 14]) (by simp [results, Tryd.results66, go_sem]) rfl ⟨by rw [hE.out]; rfl, hB1⟩
      | true =>
        go_wp2_with fail
        refine (isRune_any x.hi _ hG1).mono ?_
        rintro e w2 ⟨rfl, hb2⟩
        have hB2 := hB1.trans (hb2.mono hB1.size)
        have p2 := SpAt.below (w := w1) (b := wr.heap.size) (off := 0) (x := x) ⟨q0, q1⟩ hb2
        clear q0 q1 c0 c1 hG1
        obtain ⟨q0, q1⟩ := p2
        rw [Nat.zero_add] at q1
        cases hr2 : runeB x.hi with
        | false =>
          have hE := RET 14 _ hB1 (badAt_14 HX.out (.inr hr2)) (by decide)
          clear hr1 hr2 q0 q1 RET
          go_wp2_with fail
          exact bodyPost_ret (v := .tuple #[.int .i64 (k : Nat), .int .i64 14]) (by simp [results, Tryd.results66, go_sem]) rfl ⟨by rw [hE.out]; rfl, hB2⟩
        | true =>
          by_cases hlo : x.hi < x.lo
          · have hE := RET 15 _ hB1 (badAt_15a HX.out hr1 hr2 hlo) (by decide)
            have hd : decide (x.hi < x.lo) = true := decide_eq_true hlo
            clear hr1 hr2 RET hlo
            go_wp2_with fail
            go_quiet (fail)
            go_wp2_with fail
            exact bodyPost_ret (v := .tuple #[.int .i64 (k : Nat), .int .i64 15]) (by simp [results, Tryd.results66, go_sem]) rfl ⟨by rw [hE.out]; rfl, below_drewN hB2 nq⟩
          · have hd : decide (x.hi < x.lo) = false := decide_eq_false hlo
            cases k with
            | zero =>
              have h0 := badAt_0 HX.out hr1 hr2 hlo
              clear hr1 hr2 RET hlo
              go_wp2_with fail
              go_quiet (fail)
              go_wp2_with fail
              exact ⟨⟨1, by omega, rfl, below_drewN hB2 nq, hF.succ h0⟩, by simp only [intOf]; omega⟩
            | succ j =>
              obtain ⟨y, hy⟩ : ∃ y, l[j]? = some y := ⟨l[j], List.getElem?_eq_getElem (by omega)⟩
              obtain ⟨-, y1⟩ := ((HC.out j y hy).below hB2)
              have HY : Hid (l[j]? = some y) := hy
              clear hy
              have hdk : decide (0 < ((j + 1 : Nat) : Int)) = true := by simp
              by_cases hle : x.lo ≤ y.hi
              · have hE := RET 15 _ hB1 (badAt_15b HX.out HY.out hr1 hr2 hle) (by decide)
                have hd2 : decide (x.lo ≤ y.hi) = true := decide_eq_true hle
                clear hr1 hr2 RET hlo hle
                go_wp2_with fail
                go_quiet (fail)
                go_wp2_with fail
                exact bodyPost_ret (v := .tuple #[.int .i64 ((j : Int) + 1), .int .i64 15]) (by simp [results, Tryd.results66, go_sem]) rfl ⟨by rw [hE.out]; rfl, below_drewN hB2 nq⟩
              · have hd2 : decide (x.lo ≤ y.hi) = false := decide_eq_false hle
                have h0 := badAt_s HX.out HY.out hr1 hr2 hlo hle
                clear hr1 hr2 RET hlo hle
                go_wp2_with fail
                go_quiet (fail)
                go_wp2_with fail
                exact ⟨⟨j + 1 + 1, by omega, by go_num, below_drewN hB2 nq, hF.succ h0⟩, by simp only [intOf]; omega⟩
    · have hkn : k = n := by omega
      subst hkn
      rw [HN.out] at hF
      have hE := rowV_none hF
      rw [← HR.out] at hE
      have hE : Hid (R = .tuple #[.int .i64 0, .int .i64 0]) := hE
      go_wp2_with fail
      exact bodyPost_ret (v := .tuple #[.int .i64 0, .int .i64 0]) (by simp [results, Tryd.results66, go_sem]) rfl ⟨by rw [hE.out], hbr⟩
end Go.Proofs.YtplmmamebfpcjaaDoor
end
section
/- spans.Meet: its contract. -/
namespace Go.Proofs.YtplmmamebfpcjaaDoor
open Go.RowKit Go.Sort
theorem ov_nothing (x y : Sp) (v : Bool) (h : ovB x y = v) : (!spEq (comL x y) ⟨0, -1⟩) = v := by
  rw [← h]
  unfold spEq comL ovB
  by_cases h1 : min x.hi y.hi < max x.lo y.lo
  · rw [if_pos h1]
    simp
    omega
  · rw [if_neg h1, decide_eq_true (by omega : max x.lo y.lo ≤ min x.hi y.hi)]
    simp only [Bool.not_eq_true', Bool.and_eq_false_iff, beq_eq_false_iff_ne]
    omega
/-- Nothing ahead of i, or ahead of j, is of use any more. -/
def Past (a b : List Sp) (i j : Nat) : Prop := ∀ (p : Nat) (x : Sp) (q : Nat) (y : Sp), a[p]? = some x → b[q]? = some y → (p < i ∨ q < j) → ovB x y = false
theorem Past.zero (a b : List Sp) : Past a b 0 0 := fun _ _ _ _ _ _ h => by omega
theorem ovB_false {x y : Sp} : ovB x y = false ↔ min x.hi y.hi < max x.lo y.lo := by unfold ovB; simp
theorem Past.left {a b : List Sp} {i j : Nat} {x y : Sp} (h : Past a b i j) (ha : Rgt a) (hb : Rgt b) (hx : a[i]? = some x) (hy : b[j]? = some y) (ho : ovB x y = false) (hl : x.hi < y.hi) : Past a b (i + 1) j := by
  intro p u q v hu hv hpq
  by_cases e : p = i
  · subst e
    rw [hx] at hu
    cases hu
    rw [ovB_false] at ho ⊢
    have r1 := (ha.row hx).2.2
    by_cases e2 : q < j
    · have := h p x q v hx hv (.inr e2)
      rwa [ovB_false] at this
    · by_cases e3 : q = j
      · subst e3
        rw [hy] at hv
        cases hv
        exact ho
      · have := hb.rise (show j < q by omega) hy hv
        omega
  · exact h p u q v hu hv (by omega)
theorem Past.right {a b : List Sp} {i j : Nat} {x y : Sp} (h : Past a b i j) (ha : Rgt a) (hb : Rgt b) (hx : a[i]? = some x) (hy : b[j]? = some y) (ho : ovB x y = false) (hl : ¬ x.hi < y.hi) : Past a b i (j + 1) := by
  intro p u q v hu hv hpq
  by_cases e : q = j
  · subst e
    rw [hy] at hv
    cases hv
    rw [ovB_false] at ho ⊢
    have r1 := (hb.row hy).2.2
    by_cases e2 : p < i
    · have := h p u q y hu hy (.inl e2)
      rwa [ovB_false] at this
    · by_cases e3 : p = i
      · subst e3
        rw [hx] at hu
        cases hu
        exact ho
      · have := ha.rise (show i < p by omega) hx hu
        omega
  · exact h p u q v hu hv (by omega)
def meetV (r : Nat × Bool) : Value := .tuple #[.int .i64 (r.1 : Nat), .bool r.2]
theorem meetV_some {a b : List Sp} {i j : Nat} {x y : Sp} (h : Past a b i j) (hx : a[i]? = some x) (hy : b[j]? = some y) (ho : ovB x y = true) : meetV (meetA a b) = .tuple #[.int .i64 (i : Nat), .bool true] := by
  rw [meetA_some hx (fun p u hp hu => meets_false fun q v hv => h p u q v hu hv (.inl hp)) (meets_true.2 ⟨j, y, hy, ho⟩)]; rfl
theorem meetV_none {a b : List Sp} {i j : Nat} (h : Past a b i j) (he : a.length ≤ i ∨ b.length ≤ j) : meetV (meetA a b) = .tuple #[.int .i64 0, .bool false] := by
  rw [meetA_none (fun p u hu => meets_false fun q v hv => h p u q v hu hv (by
    have h1 := (List.getElem?_eq_some_iff.1 hu).1
    have h2 := (List.getElem?_eq_some_iff.1 hv).1
    omega))]; rfl
set_option maxHeartbeats 4000000 in
theorem meet_any (a b : Option Addr) (ca cb : Nat) (A B : List Sp) (w : World) (hla : A.length ≤ 9223372036854775807) (hlb : B.length ≤ 9223372036854775807) (hA : SPS w a A) (hB : SPS w b B) (hRa : Rgt A) (hRb : Rgt B) (hG : GL w) :
    Calls Tryd.prog 67 #[.slice a A.length ca, .slice b B.length cb] w fun e w' => e = .returned (meetV (meetA A B)) ∧ Below w.heap.size w w' := by
  obtain ⟨R, hR⟩ : ∃ R, R = meetV (meetA A B) := ⟨_, rfl⟩
  have HR : Hid (R = meetV (meetA A B)) := hR
  rw [← hR]
  clear hR
  obtain ⟨n, hn⟩ : ∃ n, n = A.length := ⟨_, rfl⟩
  have HN : Hid (n = A.length) := hn
  obtain ⟨m, hm⟩ : ∃ m, m = B.length := ⟨_, rfl⟩
  have HM : Hid (m = B.length) := hm
  rw [← hn] at hla ⊢
  rw [← hm] at hlb ⊢
  clear hn hm
  go_enter Tryd.func67, Tryd.ntmps67
  go_wp2
  go_loopw [6, 7] (fun i j wr => ∃ p q : Nat, p ≤ n ∧ q ≤ m ∧ i = .int .i64 p ∧ j = .int .i64 q ∧ Below w.heap.size w wr ∧ Past A B p q) (fun i j _ => (n - (intOf i).toNat) + (m - (intOf j).toNat))
  case atStart => exact ⟨0, 0, Nat.zero_le _, Nat.zero_le _, rfl, rfl, Below.refl _ _, Past.zero A B⟩
  case round =>
    obtain ⟨p, q, hp, hq, rfl, rfl, hbr, hP⟩ := hrel
    by_cases hlp : p < n
    · have dp : decide (p < n) = true := decide_eq_true hlp
      by_cases hlq : q < m
      · have hpl : p < A.length := by rw [← HN.out]; exact hlp
        have hql : q < B.length := by rw [← HM.out]; exact hlq
        rcases hA with h | ⟨ba, oa, rfl, hA⟩
        · subst h; simp at hpl
        rcases hB with h | ⟨bb, ob, rfl, hB⟩
        · subst h; simp at hql
        obtain ⟨x, hx⟩ : ∃ x, A[p]? = some x := ⟨_, List.getElem?_eq_getElem hpl⟩
        obtain ⟨y, hy⟩ : ∃ y, B[q]? = some y := ⟨_, List.getElem?_eq_getElem hql⟩
        obtain ⟨x0, x1⟩ := (hA p x hx).below hbr
        obtain ⟨y0, y1⟩ := (hB q y hy).below hbr
        have hGr := hG.below hbr
        obtain ⟨g0, g1, -⟩ := hGr.cells
        have HX : Hid (A[p]? = some x) := hx
        have HY : Hid (B[q]? = some y) := hy
        clear hA hB hx hy hpl hql hG
        have HC := fun d os => common_any x y (grow (redrawn wr d) os) (hGr.below (below_regrown wr d os))
        unfold spv at HC
        obtain ⟨v, hv⟩ : ∃ v, ovB x y = v := ⟨_, rfl⟩
        have HE := eqIn_sp (comL x y) ⟨0, -1⟩ (!v) (by rw [← ov_nothing x y v hv]; simp)
        have HF := neq_sp (comL x y) ⟨0, -1⟩ v (ov_nothing x y v hv)
        have HV : Hid (ovB x y = v) := hv
        clear hv
        obtain ⟨c, hc⟩ : ∃ c, c = comL x y := ⟨_, rfl⟩
        rw [← hc] at HC HE HF
        clear hc
        dsimp only at HE HF HC
        have k0 := cell_regrown x0
        have k1 := cell_regrown x1
        have l0 := cell_regrown y0
        have l1 := cell_regrown y1
        have e0 := cell_regrown g0
        have e1 := cell_regrown g1
        go_wp2_with fail
        refine wp_region_quiet_below (by kernel_rfl) (by kernel_rfl) ?_
        repeat (go_big_quiet_step ((go_at_call 74; exact Calls.regrown_of (HC _ _))))
        refine wpQuiet_nil ?_
        intro W5 hw'
        have hb5 : Below wr.heap.size wr W5 := by
          obtain ⟨⟨dq, osq⟩, rfl⟩ := hw'
          exact below_regrown _ _ _
        have k0 := (SpAt.below ⟨x0, x1⟩ hb5).1
        have k1 := (SpAt.below ⟨x0, x1⟩ hb5).2
        have l0 := (SpAt.below ⟨y0, y1⟩ hb5).1
        have l1 := (SpAt.below ⟨y0, y1⟩ hb5).2
        have hB5 : Below w.heap.size w W5 := hbr.trans (hb5.mono hbr.size)
        clear hw' HE HF HC e0 e1 x0 x1 y0 y1 g0 g1 hGr hb5 hbr
        cases v with
        | true =>
          have hE : Hid (R = .tuple #[.int .i64 (p : Nat), .bool true]) := by show R = _; rw [HR.out]; exact meetV_some hP HX.out HY.out HV.out
          clear k0 k1 l0 l1
          go_wp2_with fail
          exact bodyPost_ret (v := .tuple #[.int .i64 (p : Nat), .bool true]) (by simp [results, Tryd.results67, go_sem]) rfl ⟨by rw [hE.out], hB5⟩
        | false =>
          by_cases hh : x.hi < y.hi
          · have dd : decide (x.hi < y.hi) = true := decide_eq_true hh
            have hP' := hP.left hRa hRb HX.out HY.out HV.out hh
            clear hP
            go_wp2_with fail
            go_quiet (fail)
            go_wp2_with fail
            exact ⟨⟨p + 1, q, by omega, hq, by go_num, rfl, below_drewN hB5 nq, hP'⟩, by simp only [intOf]; omega⟩
          · have dd : decide (x.hi < y.hi) = false := decide_eq_false hh
            have hP' := hP.right hRa hRb HX.out HY.out HV.out hh
            clear hP
            go_wp2_with fail
            go_quiet (fail)
            go_wp2_with fail
            exact ⟨⟨p, q + 1, hp, by omega, rfl, by go_num, below_drewN hB5 nq, hP'⟩, by simp only [intOf]; omega⟩
      · have hqm : q = m := by omega
        subst hqm
        have hE : Hid (R = .tuple #[.int .i64 0, .bool false]) := by show R = _; rw [HR.out]; exact meetV_none hP (.inr (by rw [HM.out]; exact Nat.le_refl _))
        have dq : decide (q < q) = false := by simp
        go_wp2_with fail
        exact bodyPost_ret (v := .tuple #[.int .i64 0, .bool false]) (by simp [results, Tryd.results67, go_sem]) rfl ⟨by rw [hE.out], hbr⟩
    · have hpn : p = n := by omega
      subst hpn
      have hE : Hid (R = .tuple #[.int .i64 0, .bool false]) := by show R = _; rw [HR.out]; exact meetV_none hP (.inl (by rw [HN.out]; exact Nat.le_refl _))
      go_wp2_with fail
      exact bodyPost_ret (v := .tuple #[.int .i64 0, .bool false]) (by simp [results, Tryd.results67, go_sem]) rfl ⟨by rw [hE.out], hbr⟩
end Go.Proofs.YtplmmamebfpcjaaDoor
end
section
/- The document's own Rune and Right: their contracts. -/
namespace Go.Proofs.YtplmmamebfpcjaaDoor
open Go.RowKit Go.Sort
end Go.Proofs.YtplmmamebfpcjaaDoor
end
section
/- Lists of spans as cells. -/
namespace Go.Proofs.YtplmmamebfpcjaaDoor
open Go.RowKit Go.Sort Go.Joins
/-- A list's cells. -/
def cellsS (l : List Sp) : List Value := l.flatMap fun x => [.int .i32 x.lo, .int .i32 x.hi]
theorem cellsS_length (l : List Sp) : (cellsS l).length = l.length * 2 := by
  induction l with
  | nil => rfl
  | cons x l ih => simp only [cellsS, List.flatMap_cons, List.length_append, List.length_cons] at ih ⊢; rw [ih]; simp; omega
theorem cellsS_get (l : List Sp) (i : Nat) (x : Sp) (h : l[i]? = some x) : (cellsS l)[i * 2]? = some (.int .i32 x.lo) ∧ (cellsS l)[i * 2 + 1]? = some (.int .i32 x.hi) := by
  induction l generalizing i with
  | nil => simp at h
  | cons y l ih =>
    cases i with
    | zero =>
      have : y = x := by simpa using h
      subst this
      exact ⟨rfl, rfl⟩
    | succ i =>
      have := ih i (by simpa using h)
      have e : cellsS (y :: l) = .int .i32 y.lo :: .int .i32 y.hi :: cellsS l := rfl
      rw [e, show (i + 1) * 2 = i * 2 + 1 + 1 by omega, show i * 2 + 1 + 1 + 1 = i * 2 + 1 + 1 + 1 from rfl]
      simpa using this
theorem SPS.of_block {w : World} {g : Nat} {l r : List Sp} {t : TypeId} {fr : Nat × Nat} (h : w.heap[g]? = some (.cells (cellsS (l ++ r)).toArray t fr)) : SPS w (some ⟨g, 0, none⟩) l := by
  refine .inr ⟨g, 0, rfl, fun i x hx => ?_⟩
  have hx' : (l ++ r)[i]? = some x := by
    rw [List.getElem?_append_left (List.getElem?_eq_some_iff.1 hx).1]; exact hx
  obtain ⟨h0, h1⟩ := cellsS_get _ _ _ hx'
  refine ⟨?_, ?_⟩ <;> rw [cell_of_block h, Nat.zero_add] <;> simpa
theorem SPS.new (w : World) (l : List Sp) (t : TypeId) : SPS (w.alloc (.cells (cellsS l).toArray t)) (some ⟨w.heap.size, 0, none⟩) l :=
  SPS.of_block (r := []) (by rw [List.append_nil]; exact heap_alloc_new _ _)
end Go.Proofs.YtplmmamebfpcjaaDoor
end
section
/- classes.tooMany, notRight, over: their contracts. -/
namespace Go.Proofs.YtplmmamebfpcjaaDoor
open Go.RowKit Go.Sort
/-- The value of lists. -/
def lsV (a b c : Option Addr) (na ca nb cb nc cc : Nat) : Value := .agg #[.slice none 0 0, .slice a na ca, .slice b nb cb, .slice c nc cc]
set_option maxHeartbeats 1000000 in
theorem tooMany_any (a b c : Option Addr) (ca cb cc : Nat) (A B C : List Sp) (i : Nat) (hi : i = 1 ∨ i = 2 ∨ i = 3) (w : World) :
    Calls Tryd.prog 58 #[lsV a b c A.length ca B.length cb C.length cc, .int .i64 (i : Nat)] w fun e w' => e = .returned (rowV (ruleA A B C 0 i)) ∧ Below w.heap.size w w' := by
  have hb := fun o => (Below.refl w.heap.size w).alloc (Nat.le_refl _) o
  unfold lsV
  rcases hi with rfl | rfl | rfl
  · show Calls _ _ _ _ fun e w' => e = .returned (rowV (manyA A)) ∧ _
    unfold manyA
    by_cases h : 512 < A.length
    · rw [if_pos h]
      have hd : decide ((512 : Int) < (A.length : Int)) = true := decide_eq_true (by omega)
      go_enter Tryd.func58, Tryd.ntmps58
      go_wp2
      exact bodyPost_ret (v := rowV (512, 4)) (by simp [results, Tryd.results58, go_sem, rowV]) rfl ⟨rfl, hb _⟩
    · rw [if_neg h]
      have hd : decide ((512 : Int) < (A.length : Int)) = false := decide_eq_false (by omega)
      go_enter Tryd.func58, Tryd.ntmps58
      go_wp2
      exact bodyPost_ret (v := rowV (0, 0)) (by simp [results, Tryd.results58, go_sem, rowV]) rfl ⟨rfl, hb _⟩
  · show Calls _ _ _ _ fun e w' => e = .returned (rowV (manyA B)) ∧ _
    unfold manyA
    by_cases h : 512 < B.length
    · rw [if_pos h]
      have hd : decide ((512 : Int) < (B.length : Int)) = true := decide_eq_true (by omega)
      go_enter Tryd.func58, Tryd.ntmps58
      go_wp2
      exact bodyPost_ret (v := rowV (512, 4)) (by simp [results, Tryd.results58, go_sem, rowV]) rfl ⟨rfl, hb _⟩
    · rw [if_neg h]
      have hd : decide ((512 : Int) < (B.length : Int)) = false := decide_eq_false (by omega)
      go_enter Tryd.func58, Tryd.ntmps58
      go_wp2
      exact bodyPost_ret (v := rowV (0, 0)) (by simp [results, Tryd.results58, go_sem, rowV]) rfl ⟨rfl, hb _⟩
  · show Calls _ _ _ _ fun e w' => e = .returned (rowV (manyA C)) ∧ _
    unfold manyA
    by_cases h : 512 < C.length
    · rw [if_pos h]
      have hd : decide ((512 : Int) < (C.length : Int)) = true := decide_eq_true (by omega)
      go_enter Tryd.func58, Tryd.ntmps58
      go_wp2
      exact bodyPost_ret (v := rowV (512, 4)) (by simp [results, Tryd.results58, go_sem, rowV]) rfl ⟨rfl, hb _⟩
    · rw [if_neg h]
      have hd : decide ((512 : Int) < (C.length : Int)) = false := decide_eq_false (by omega)
      go_enter Tryd.func58, Tryd.ntmps58
      go_wp2
      exact bodyPost_ret (v := rowV (0, 0)) (by simp [results, Tryd.results58, go_sem, rowV]) rfl ⟨rfl, hb _⟩
/-- A list that was handed in. -/
structure Lst (w : World) (a : Option Addr) (c : Nat) (l : List Sp) : Prop where
  le : l.length ≤ c
  cap : c ≤ 9223372036854775807
  at' : SPS w a l
theorem Lst.below {w w' : World} {a : Option Addr} {c : Nat} {l : List Sp} (h : Lst w a c l) (hb : Below w.heap.size w w') : Lst w' a c l := ⟨h.le, h.cap, h.at'.below hb⟩
theorem Lst.len {w : World} {a : Option Addr} {c : Nat} {l : List Sp} (h : Lst w a c l) : l.length ≤ 9223372036854775807 := Nat.le_trans h.le h.cap
set_option maxHeartbeats 1000000 in
theorem notRight_any (a b c : Option Addr) (ca cb cc : Nat) (A B C : List Sp) (i : Nat) (hi : i = 1 ∨ i = 2 ∨ i = 3) (w : World) (hA : Lst w a ca A) (hB : Lst w b cb B) (hC : Lst w c cc C) (hG : GL w) :
    Calls Tryd.prog 59 #[lsV a b c A.length ca B.length cb C.length cc, .int .i64 (i : Nat)] w fun e w' => e = .returned (rowV (ruleA A B C 1 i)) ∧ Below w.heap.size w w' := by
  have hb := fun o => (Below.refl w.heap.size w).alloc (Nat.le_refl _) o
  unfold lsV
  have HA := fun wx (h : Lst wx a ca A) (hg : GL wx) => right_any a ca A wx h.len h.at' hg
  have HB := fun wx (h : Lst wx b cb B) (hg : GL wx) => right_any b cb B wx h.len h.at' hg
  have HC := fun wx (h : Lst wx c cc C) (hg : GL wx) => right_any c cc C wx h.len h.at' hg
  unfold rowV at HA HB HC
  rcases hi with rfl | rfl | rfl
  · show Calls _ _ _ _ fun e w' => e = .returned (.tuple #[.int .i64 ((rightA A).1 : Nat), .int .i64 ((rightA A).2 : Nat)]) ∧ _
    obtain ⟨⟨p, e⟩, hm⟩ : ∃ m, m = rightA A := ⟨_, rfl⟩
    rw [← hm] at HA ⊢
    clear hm HB HC
    go_enter Tryd.func59, Tryd.ntmps59
    go_wp2_with fail
    refine (HA _ (hA.below (hb _)) (hG.below (hb _))).mono ?_
    rintro e w1 ⟨rfl, hb1⟩
    go_wp2_with fail
    exact bodyPost_ret (v := rowV (_, _)) (by simp [results, Tryd.results59, go_sem, rowV]) rfl ⟨rfl, (hb _).trans (hb1.mono (hb _).size)⟩
  · show Calls _ _ _ _ fun e w' => e = .returned (.tuple #[.int .i64 ((rightA B).1 : Nat), .int .i64 ((rightA B).2 : Nat)]) ∧ _
    obtain ⟨⟨p, e⟩, hm⟩ : ∃ m, m = rightA B := ⟨_, rfl⟩
    rw [← hm] at HB ⊢
    clear hm HA HC
    go_enter Tryd.func59, Tryd.ntmps59
    go_wp2_with fail
    refine (HB _ (hB.below (hb _)) (hG.below (hb _))).mono ?_
    rintro e w1 ⟨rfl, hb1⟩
    go_wp2_with fail
    exact bodyPost_ret (v := rowV (_, _)) (by simp [results, Tryd.results59, go_sem, rowV]) rfl ⟨rfl, (hb _).trans (hb1.mono (hb _).size)⟩
  · show Calls _ _ _ _ fun e w' => e = .returned (.tuple #[.int .i64 ((rightA C).1 : Nat), .int .i64 ((rightA C).2 : Nat)]) ∧ _
    obtain ⟨⟨p, e⟩, hm⟩ : ∃ m, m = rightA C := ⟨_, rfl⟩
    rw [← hm] at HC ⊢
    clear hm HA HB
    go_enter Tryd.func59, Tryd.ntmps59
    go_wp2_with fail
    refine (HC _ (hC.below (hb _)) (hG.below (hb _))).mono ?_
    rintro e w1 ⟨rfl, hb1⟩
    go_wp2_with fail
    exact bodyPost_ret (v := rowV (_, _)) (by simp [results, Tryd.results59, go_sem, rowV]) rfl ⟨rfl, (hb _).trans (hb1.mono (hb _).size)⟩
end Go.Proofs.YtplmmamebfpcjaaDoor
end
section
/- classes.over: its contract. -/
namespace Go.Proofs.YtplmmamebfpcjaaDoor
open Go.RowKit Go.Sort Go.Joins
def adL (a b c : Option Addr) : Nat → Option Addr
  | 1 => a
  | 2 => b
  | 3 => c
  | _ => none
def cpL (a b c : Nat) : Nat → Nat
  | 1 => a
  | 2 => b
  | 3 => c
  | _ => 0
/-- The four lists. -/
theorem four {w : World} {a b c : Option Addr} {ca cb cc : Nat} {A B C : List Sp} (hA : Lst w a ca A) (hB : Lst w b cb B) (hC : Lst w c cc C) (j : Nat) : Lst w (adL a b c j) (cpL ca cb cc j) (pickL A B C j) := by
  match j with
  | 0 => exact ⟨Nat.le_refl _, by show 0 ≤ _; omega, .inl rfl⟩
  | 1 => exact hA
  | 2 => exact hB
  | 3 => exact hC
  | _ + 4 => exact ⟨Nat.le_refl _, by show 0 ≤ _; omega, .inl rfl⟩
/-- The four cells. -/
def Four (w : World) (b0 : Nat) (a b c : Option Addr) (ca cb cc : Nat) (A B C : List Sp) : Prop := ∀ j, j < 4 → w.cell? ⟨b0, j, none⟩ = some (.slice (adL a b c j) (pickL A B C j).length (cpL ca cb cc j))
theorem Four.below {w w' : World} {b0 : Nat} {a b c : Option Addr} {ca cb cc : Nat} {A B C : List Sp} (h : Four w b0 a b c ca cb cc A B C) (hb : Below w.heap.size w w') : Four w' b0 a b c ca cb cc A B C := fun j hj =>
  (hb.cell (World.block_lt_of_cell? w _ (h j hj))).trans (h j hj)
theorem Four.new (w : World) (a b c : Option Addr) (ca cb cc : Nat) (A B C : List Sp) (t : TypeId) : Four (w.alloc (.cells #[.slice none 0 0, .slice a A.length ca, .slice b B.length cb, .slice c C.length cc] t)) w.heap.size a b c ca cb cc A B C := fun j hj => by
  rw [cell_of_block (heap_alloc_new w _)]
  rcases (show j = 0 ∨ j = 1 ∨ j = 2 ∨ j = 3 by omega) with rfl | rfl | rfl | rfl <;> rfl
theorem ahead_get (A B C : List Sp) {i j : Nat} (hj : j < i) (hi : i ≤ 3) : (ahead A B i)[j]? = some (pickL A B C j) := by
  unfold ahead
  rw [List.getElem?_take_of_lt hj]
  rcases (show j = 0 ∨ j = 1 ∨ j = 2 by omega) with rfl | rfl | rfl <;> rfl
theorem ahead_len (A B : List Sp) {i : Nat} (hi : i ≤ 3) : (ahead A B i).length = i := by
  unfold ahead
  simp
  omega
theorem slice_four (W : World) (g i : Nat) (hi : 1 ≤ i) (hi3 : i ≤ 3) : (Instr.sliceAt 101 (.pointer (some ⟨g, 0, none⟩)) none (some (.int .i64 (i : Nat))) none).run Tryd.prog W = .ok (.slice (some ⟨g, 0, none⟩) i 4) W := by
  rcases (show i = 1 ∨ i = 2 ∨ i = 3 by omega) with rfl | rfl | rfl <;> kernel_rfl
def posI (f : Int) : Int := if f < 0 then 0 else f
theorem posI_pos {f : Int} (h : 0 ≤ f) : posI f = f := by unfold posI; rw [if_neg (by omega)]
set_option maxRecDepth 100000 in
set_option maxHeartbeats 2000000 in
theorem over_any (a b c : Option Addr) (ca cb cc : Nat) (A B C : List Sp) (i : Nat) (hi : 1 ≤ i) (hi3 : i ≤ 3) (w : World) (hA : Lst w a ca A) (hB : Lst w b cb B) (hC : Lst w c cc C) (hRA : Rgt A) (hRB : Rgt B) (hRC : Rgt C) (hG : GL w) :
    Calls Tryd.prog 60 #[lsV a b c A.length ca B.length cb C.length cc, .int .i64 (i : Nat)] w fun e w' => e = .returned (rowV (ruleA A B C 2 i)) ∧ Below w.heap.size w w' := by
  have hb0 : Below w.heap.size w (w.alloc (.cells #[.slice none 0 0, .slice a A.length ca, .slice b B.length cb, .slice c C.length cc] 101)) := (Below.refl w.heap.size w).alloc (Nat.le_refl _) _
  have hF := Four.new w a b c ca cb cc A B C 101
  have hL := four hA hB hC
  have hR : ∀ j, Rgt (pickL A B C j) := fun j => by
    unfold pickL
    split
    · exact hRA
    · exact hRB
    · exact hRC
    · exact rightA_zero rfl
  have HM := fun (j : Nat) (wx : World) (h1 : Lst wx (adL a b c i) (cpL ca cb cc i) (pickL A B C i)) (h2 : Lst wx (adL a b c j) (cpL ca cb cc j) (pickL A B C j)) (hg : GL wx) => meet_any (adL a b c i) (adL a b c j) (cpL ca cb cc i) (cpL ca cb cc j) (pickL A B C i) (pickL A B C j) wx h1.len h2.len h1.at' h2.at' (hR i) (hR j) hg
  have hL0 := fun j => (hL j).below hb0
  have hG0 := hG.below hb0
  obtain ⟨Rr, hRr⟩ : ∃ R, R = ruleA A B C 2 i := ⟨_, rfl⟩
  rw [← hRr]
  have HRr : Hid (Rr = overA (pickL A B C i) (ahead A B i)) := hRr
  have hAt := fun {j : Nat} (hj : j < i) => ahead_get A B C hj hi3
  have hAl := ahead_len A B hi3
  have hsl := fun W g => slice_four W g i hi hi3
  clear hRr hA hB hC hRA hRB hRC hG hL hR
  unfold lsV
  go_enter Tryd.func60, Tryd.ntmps60
  go_wp2_with fail
  have hFi := hF i (by omega)
  have hLi := hL0 i
  obtain ⟨W0, hW0⟩ : ∃ W0, W0 = w.alloc (.cells #[.slice none 0 0, .slice a A.length ca, .slice b B.length cb, .slice c C.length cc] 101) := ⟨_, rfl⟩
  rw [← hW0] at hb0 hF hL0 hG0 hFi hLi ⊢
  clear hW0
  obtain ⟨Bx, hBx⟩ : ∃ Bx, Bx = w.heap.size := ⟨_, rfl⟩
  have HBx : Hid (Bx = w.heap.size) := hBx
  rw [← hBx] at hF hFi ⊢
  clear hBx
  obtain ⟨X, hX⟩ : ∃ X, X = pickL A B C i := ⟨_, rfl⟩
  obtain ⟨ax, hax⟩ : ∃ ax, ax = adL a b c i := ⟨_, rfl⟩
  obtain ⟨cx, hcx⟩ : ∃ cx, cx = cpL ca cb cc i := ⟨_, rfl⟩
  rw [← hX] at HRr hLi HM hFi
  rw [← hax] at hLi HM hFi
  rw [← hcx] at hLi HM hFi
  clear hX hax hcx
  obtain ⟨L, hL⟩ : ∃ L, L = ahead A B i := ⟨_, rfl⟩
  rw [← hL] at HRr hAt hAl
  clear hL
  go_loopw [6, 7, 15] (fun f m v wr => ∃ (j : Nat) (F : Int), j ≤ i ∧ F = ovI X (L.take j) ∧ -1 ≤ F ∧ v = .int .i64 (j : Nat) ∧ f = .int .i64 (posI F) ∧ m = .bool (decide (0 ≤ F)) ∧ Below W0.heap.size W0 wr) (fun _ _ v _ => i - (intOf v).toNat)
  case atStart => exact ⟨0, -1, Nat.zero_le _, rfl, Int.le_refl _, rfl, rfl, rfl, Below.refl _ _⟩
  case round =>
    obtain ⟨j, F, hj, hF0, hF1, rfl, rfl, rfl, hbr⟩ := hrel
    have HF0 : Hid (F = ovI X (L.take j)) := hF0
    clear hF0
    by_cases hlt : j < i
    · have hFj := (hF j (by omega))
      have hFj := (hbr.cell (World.block_lt_of_cell? W0 _ hFj)).trans hFj
      have hFi := (hbr.cell (World.block_lt_of_cell? W0 _ hFi)).trans hFi
      have hLi := hLi.below hbr
      have hLj := (hL0 j).below hbr
      have hGr := hG0.below hbr
      have HM := HM j
      have hS := ovI_take (X := X) (hAt hlt)
      rw [← HF0.out] at hS
      unfold ovS at hS
      obtain ⟨Y, hY⟩ : ∃ Y, Y = pickL A B C j := ⟨_, rfl⟩
      obtain ⟨ay, hay⟩ : ∃ ay, ay = adL a b c j := ⟨_, rfl⟩
      obtain ⟨cy, hcy⟩ : ∃ cy, cy = cpL ca cb cc j := ⟨_, rfl⟩
      rw [← hY] at hLj HM hFj hS
      rw [← hay] at hLj HM hFj
      rw [← hcy] at hLj HM hFj
      clear hY hay hcy hF hL0 hG0 hAt hAl
      unfold meetV at HM
      obtain ⟨⟨p, m⟩, hm⟩ : ∃ m, m = meetA X Y := ⟨_, rfl⟩
      rw [← hm] at HM hS
      clear hm
      have HS : Hid (ovI X (L.take (j + 1)) = if m = true ∧ (F < 0 ∨ (p : Int) < F) then (p : Int) else F) := hS
      clear hS
      go_wp2_with fail
      refine (HM _ hLi hLj hGr).mono ?_
      rintro e w1 ⟨rfl, hb1⟩
      have B1 := hbr.trans (hb1.mono hbr.size)
      clear HM hLi hLj hGr hFi hFj hb1
      cases m with
      | false =>
        have h1 := HS.out
        simp only [Bool.false_eq_true, false_and, if_false] at h1
        have HS1 : Hid (F = ovI X (L.take (j + 1))) := h1.symm
        clear h1 HS
        go_wp2_with fail
        exact ⟨⟨j + 1, F, by omega, HS1.out, hF1, by go_num, rfl, rfl, B1⟩, by simp only [intOf]; omega⟩
      | true =>
        by_cases hn : F < 0
        · have h1 := HS.out
          simp only [true_and] at h1
          rw [if_pos (.inl hn)] at h1
          have HS1 : Hid ((p : Int) = ovI X (L.take (j + 1))) := h1.symm
          have hd : decide (0 ≤ F) = false := decide_eq_false (by omega)
          clear h1 HS
          go_wp2_with fail
          exact ⟨⟨j + 1, p, by omega, HS1.out, by omega, by go_num, by rw [posI_pos (by omega)], by simp, B1⟩, by simp only [intOf]; omega⟩
        · have hd : decide (0 ≤ F) = true := decide_eq_true (by omega)
          rw [posI_pos (by omega)]
          by_cases hp : (p : Int) < F
          · have h1 := HS.out
            simp only [true_and] at h1
            rw [if_pos (.inr hp)] at h1
            have HS1 : Hid ((p : Int) = ovI X (L.take (j + 1))) := h1.symm
            have hdp : decide ((p : Int) < F) = true := decide_eq_true hp
            clear h1 HS
            go_wp2_with fail
            exact ⟨⟨j + 1, p, by omega, HS1.out, by omega, by go_num, by rw [posI_pos (by omega)], by simp, B1⟩, by simp only [intOf]; omega⟩
          · have h1 := HS.out
            simp only [true_and] at h1
            rw [if_neg (by omega)] at h1
            have HS1 : Hid (F = ovI X (L.take (j + 1))) := h1.symm
            have hdp : decide ((p : Int) < F) = false := decide_eq_false hp
            clear h1 HS
            go_wp2_with fail
            exact ⟨⟨j + 1, F, by omega, HS1.out, hF1, by go_num, by rw [posI_pos (by omega)], by simp [hd], B1⟩, by simp only [intOf]; omega⟩
    · have hij : j = i := by omega
      subst hij
      have hT := HF0.out
      rw [List.take_of_length_le (by omega)] at hT
      have HT : Hid (F = ovI X L) := hT
      clear hT hF hL0 hG0 hAt hAl hFi hLi HM
      by_cases hn : F < 0
      · have hd : decide (0 ≤ F) = false := decide_eq_false (by omega)
        have hE : Hid (Rr = (0, 0)) := by show Rr = _; rw [HRr.out]; unfold overA; rw [← HT.out, if_pos hn]
        clear hn
        rw [hd]
        go_wp2_with fail
        exact bodyPost_ret (v := rowV (0, 0)) (by simp [results, Tryd.results60, go_sem, rowV]) rfl ⟨by rw [hE.out], hb0.trans (hbr.mono hb0.size)⟩
      · have hd : decide (0 ≤ F) = true := decide_eq_true (by omega)
        have hE : Hid (Rr = (F.toNat, 16)) := by show Rr = _; rw [HRr.out]; unfold overA; rw [← HT.out, if_neg hn]
        rw [posI_pos (by omega), hd]
        go_wp2_with fail
        exact bodyPost_ret (v := .tuple #[.int .i64 F, .int .i64 16]) (by simp [results, Tryd.results60, go_sem]) rfl ⟨by rw [hE.out]; simp [rowV]; omega, hb0.trans (hbr.mono hb0.size)⟩
end Go.Proofs.YtplmmamebfpcjaaDoor
end
