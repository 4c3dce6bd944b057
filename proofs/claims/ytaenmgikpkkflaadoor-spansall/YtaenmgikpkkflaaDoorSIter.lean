/- spans.All: its iterator's contract. -/
import Derived.RangeFuncNested
import Derived.RangeFuncBound
import Derived.RangeFuncCalls
import Derived.RangeFuncLeaves
import Derived.RangeFuncBox
import Derived.Shelf.Abstract
import Derived.Shelf.RegionOpen
import Derived.WalkKit
import Derived.OwnWalkIn
import Derived.TacticsInMore
import Derived.LoopNIn
import Derived.LoopIn
import Derived.Test.YtaenmgikpkkflaaDoorSClone
namespace Go.Proofs.YtaenmgikpkkflaaDoor
open Go.RowKit Go.Shelf
open Go.Joins
attribute [local go_sem] Oper.semAt_some
/-- What a round of the iterator's caller keeps: the package-level variables' blocks, each block of spans, each box of a slice of spans. -/
def KpS (A B : World) : Prop := A.heap.size ≤ B.heap.size ∧ (∀ k, k < 2 → B.heap[k]? = A.heap[k]?) ∧ ∀ (k : Nat) (c : Array Value) (T : TypeId) (fr : Nat × Nat), A.heap[k]? = some (.cells c T fr) → (T = 26 ∨ T = 27) → B.heap[k]? = A.heap[k]?
theorem KpS.refl (A : World) : KpS A A := ⟨Nat.le_refl _, fun _ _ => rfl, fun _ _ _ _ _ _ => rfl⟩
theorem KpS.trans {A B C : World} (h : KpS A B) (k : KpS B C) : KpS A C :=
  ⟨Nat.le_trans h.1 k.1, fun i hi => (k.2.1 i hi).trans (h.2.1 i hi), fun i c T fr hi hT => by
    have h1 := h.2.2 i c T fr hi hT
    rw [← h1]
    exact k.2.2 i c T fr (by rw [h1]; exact hi) hT⟩
theorem KpS.of_below {A B : World} (h : Below A.heap.size A B) (h2 : 2 ≤ A.heap.size) : KpS A B :=
  ⟨h.size, fun k hk => h.block k (by omega), fun k _ _ _ hk _ => h.block k (Array.getElem?_eq_some_iff.1 hk).1⟩
theorem KpS.putObj {w : World} (hn : 2 ≤ w.heap.size) (W : World) (l : Nat) (o o' : Obj) (hl : w.heap.size ≤ l) (h : W.heap[l]? = some o) (ho : o.isCells = false) (_hw : o.isWalk = false) : KpS W (W.putObj l o') :=
  ⟨by simp, fun k hk => World.putObj_heap_other (by omega), fun k c T fr hk _ => by
    have hne : k ≠ l := fun e => by subst e; rw [h] at hk; cases hk; simp [Obj.isCells] at ho
    exact World.putObj_heap_other hne⟩
theorem GL.two {W : World} (h : GL W) : 2 ≤ W.heap.size := by
  have := World.block_lt_of_cell? W _ h.2.1.1
  simp only at this
  omega
theorem GL.kp {A B : World} (h : GL A) (k : KpS A B) : GL B := by
  have e : ∀ i o, i < 2 → B.cell? ⟨i, o, none⟩ = A.cell? ⟨i, o, none⟩ := fun i o hi => World.cell?_of_block (w := A) (a := ⟨i, o, none⟩) (k.2.1 i hi)
  exact ⟨⟨(e _ _ (by omega)).trans h.1.1, (e _ _ (by omega)).trans h.1.2⟩, ⟨(e _ _ (by omega)).trans h.2.1.1, (e _ _ (by omega)).trans h.2.1.2⟩, ⟨(e _ _ (by omega)).trans h.2.2.1, (e _ _ (by omega)).trans h.2.2.2⟩⟩
theorem SPR.kp {A B : World} {lo : Nat} {a : Option Addr} {l : List Sp} (h : SPR A lo a l) (k : KpS A B) : SPR B lo a l := by
  rcases h with h | ⟨g, cur, h1, h2, h3, h4⟩
  · exact .inl h
  · exact .inr ⟨g, cur, h1, h2, (k.2.2 g cur 26 _ h3 (.inl rfl)).trans h3, h4⟩
/-- A span in a block of its own. -/
def BoxS (W : World) (b : Nat) (x : Sp) : Prop := W.heap[b]? = some (.cells #[.int .i32 x.lo, .int .i32 x.hi] 26 (0, 0))
theorem BoxS.kp {A B : World} {b : Nat} {x : Sp} (h : BoxS A b x) (k : KpS A B) : BoxS B b x := (k.2.2 b _ 26 _ h (.inl rfl)).trans h
theorem BoxS.below {A B : World} {b : Nat} {x : Sp} (h : BoxS A b x) (k : Below A.heap.size A B) : BoxS B b x := (k.block b (Array.getElem?_eq_some_iff.1 h).1).trans h
theorem BoxS.new (W : World) (x : Sp) : BoxS (W.alloc (.cells #[.int .i32 x.lo, .int .i32 x.hi] 26)) W.heap.size x := heap_alloc_new W _
theorem BoxS.at {W : World} {b : Nat} {x : Sp} (h : BoxS W b x) : W.cell? ⟨b, 0, none⟩ = some (.int .i32 x.lo) ∧ W.cell? ⟨b, 1, none⟩ = some (.int .i32 x.hi) := by
  constructor <;> rw [cell_of_block h] <;> rfl
/-- 'next' within a span; its runes so far. -/
def nS (x : Sp) (z : Int) : Nat → Int
  | 0 => z
  | 1 => max z ((comL x lowR).hi + 1)
  | _ => max (max z ((comL x lowR).hi + 1)) ((comL x highR).hi + 1)
def pT (x : Sp) : Nat → List Int
  | 0 => []
  | 1 => rng (comL x lowR)
  | _ => rng (comL x lowR) ++ rng (comL x highR)
set_option maxRecDepth 100000 in
set_option maxHeartbeats 8000000 in
theorem all1_in (n : Nat) (hn : 1 ≤ n) (lp Bs N : Nat) (a : Option Addr) (cap : Nat) (l : List Sp) (hlen : l.length ≤ 9223372036854775807) (hR : Rgt l) (J Jx : List Int → World → Prop)
    (hN : (runesL l).length ≤ N)
    (hJ : ∀ pre A B, J pre A → Below A.heap.size A B → J pre B)
    (hY : ∀ pre r W, J pre W → pre.length < N → YieldAt Fence.wide (n - 1) Tryd.prog lp #[.int .i32 r] W fun e W' =>
      (e = .returned (.bool true) ∧ J (pre ++ [r]) W' ∧ KpS W W') ∨ (e = .returned (.bool false) ∧ Jx (pre ++ [r]) W'))
    (W : World) (hBs : W.heap[Bs]? = some (.cells #[.slice a l.length cap] 27 (0, 0))) (hS : SPR W 0 a l) (hG : GL W) (h0 : J [] W) :
    CallsIn Fence.wide n Tryd.prog 26 #[.func (.yield lp) #[] #[], .pointer (some ⟨Bs, 0, none⟩)] W fun e W' => (∃ v, e = .returned v) ∧
      ((∃ ys, ys = runesL l ∧ J ys W') ∨ (∃ pre, pre <+: runesL l ∧ Jx pre W')) := by
  refine callsIn_of_wp Tryd.func26 rfl trivial ?_ rfl
  simp only [Tryd.ntmps26, List.size_toArray, List.length_cons, List.length_nil, Nat.reduceAdd, Nat.reduceSub, Array.replicate_succ, Array.replicate_zero, List.push_toArray, List.append_toArray, List.nil_append, List.cons_append]
  have cB := cell_of_block hBs (i := 0)
  have hp0 := part0
  have hp1 := part1
  gi_wp2
  clear cB hBs
  gi_loopw [3, 12] (fun nx i wr => ∃ (k : Nat) (z : Int), k ≤ l.length ∧ nx = .int .i32 z ∧ i = .int .i64 k ∧ 0 ≤ z ∧ z ≤ 1114112 ∧ (∀ x : Sp, l[k]? = some x → z ≤ x.lo) ∧ J (runesT l k) wr ∧ SPR wr 0 a l ∧ GL wr) (fun _ i _ => l.length - (intOf i).toNat)
  case atStart => exact ⟨0, 0, Nat.zero_le _, rfl, rfl, Int.le_refl _, by omega, fun x hx => by have := (hR.row hx).1; rw [runeB_iff] at this; exact this.1, h0, hS, hG⟩
  case round =>
    clear h0 hS hG
    obtain ⟨k, z, hk, rfl, rfl, hz0, hz1, hz, hJk, hS, hG⟩ := hrel
    by_cases hlt : k < l.length
    · obtain ⟨x, hx⟩ : ∃ x, l[k]? = some x := ⟨_, List.getElem?_eq_getElem hlt⟩
      obtain ⟨r1, r2, r3⟩ := hR.row hx
      have hzx := hz x hx
      have HX : Hid (l[k]? = some x) := hx
      have hSr := hS
      rcases hS with h | ⟨g, cur, rfl, -, hh, hc⟩
      · rw [h] at hlt; simp at hlt
      obtain ⟨c0, c1⟩ := hc k x hx
      have c0 := (cell_of_block hh (k * 2)).trans c0
      have c1 := (cell_of_block hh (k * 2 + 1)).trans c1
      obtain ⟨-, -, g2, g3, g4, g5, -⟩ := hG.cells
      have g2 := cell_alloc_s g2
      have g3 := cell_alloc_s g3
      have g4 := cell_alloc_s g4
      have g5 := cell_alloc_s g5
      have bA := (Below.refl wr.heap.size wr).alloc (Nat.le_refl _) (.cells #[.int .i32 x.lo, .int .i32 x.hi] 26)
      have hJ1 := hJ _ _ _ hJk bA
      have hS1 := hSr.below bA
      have hG1 := hG.below bA
      have hX1 := BoxS.new wr x
      clear hh hc hx hz hJk hG hSr bA
      have HR3 : Hid (x.lo ≤ x.hi) := r3
      have HR1 : Hid (runeB x.lo = true) := r1
      have HR2 : Hid (runeB x.hi = true) := r2
      clear r1 r2 r3
      gi_wp2
      clear g2 g3 g4 g5 c0 c1
      obtain ⟨W1, hW1⟩ : ∃ W1, W1 = wr.alloc (.cells #[.int .i32 x.lo, .int .i32 x.hi] 26) := ⟨_, rfl⟩
      obtain ⟨B5, hB5⟩ : ∃ B5, B5 = wr.heap.size := ⟨_, rfl⟩
      rw [← hW1] at hJ1 hS1 hG1 hX1 ⊢
      rw [← hB5] at hX1 ⊢
      clear hW1 hB5
      gi_loopw [3, 17] (fun nx i wi => ∃ q : Nat, q ≤ 2 ∧ nx = .int .i32 (nS x z q) ∧ i = .int .i64 q ∧ J (runesT l k ++ pT x q) wi ∧ SPR wi 0 (some ⟨g, 0, none⟩) l ∧ GL wi ∧ BoxS wi B5 x) (fun _ i _ => 2 - (intOf i).toNat)
      case atStart => exact ⟨0, Nat.zero_le _, rfl, rfl, by rw [show pT x 0 = [] from rfl, List.append_nil]; exact hJ1, hS1, hG1, hX1⟩
      case round =>
        clear hJ1 hS1 hG1 hX1
        obtain ⟨q, hq, rfl, rfl, hJq, hSq, hGq, hXq⟩ := hrel
        rcases (show q = 0 ∨ q = 1 ∨ q = 2 by omega) with rfl | rfl | rfl
        · rw [show ((0 : Nat) : Int) = 0 from rfl]
          obtain ⟨Z, hZ⟩ : ∃ Z, Z = nS x z 0 := ⟨_, rfl⟩
          obtain ⟨pre, hpre⟩ : ∃ pre, pre = runesT l k ++ pT x 0 := ⟨_, rfl⟩
          have HZ : Hid (Z = nS x z 0) := hZ
          have HP : Hid (pre = runesT l k ++ pT x 0) := hpre
          rw [← hZ]
          rw [← hpre] at hJq
          have hcb := com_low HR1.out HR2.out
          have hst : min (max (comL x lowR).lo Z) ((comL x lowR).hi + 1) ≤ (comL x lowR).lo := by rw [HZ.out]; exact start_low hz0 HR1.out hzx
          have hZ0 : 0 ≤ Z ∧ Z ≤ 1114112 := by
            have := com_low HR1.out HR2.out
            rw [HZ.out]
            show 0 ≤ z ∧ z ≤ 1114112
            omega
          have hPP : ∀ m, m ≤ (comL x lowR).hi + 1 → pre ++ upto (comL x lowR).lo m <+: runesL l := fun m hm => by
            refine List.IsPrefix.trans ?_ (runesT_pre l (k + 1))
            rw [runesT_succ HX.out, HP.out, List.append_assoc, List.prefix_append_right_inj]
            show [] ++ upto (comL x lowR).lo m <+: rns x
            rw [List.nil_append]
            exact (upto_pre hm).trans (List.prefix_append _ _)
          clear hZ hpre
          have bA := (Below.refl wr.heap.size wr).alloc (Nat.le_refl _) (.cells #[.int .i32 0, .int .i32 55295] 26)
          have hJa := hJ _ _ _ hJq bA
          have hSa := hSq.below bA
          have hGa := hGq.below bA
          have hXa := hXq.below bA
          obtain ⟨x0, x1⟩ := hXa.at
          clear hJq hSq hGq hXq bA
          gi_wp2_with fail
          refine ⟨trivial, (callsIn_wide.2 (common_any x lowR _ hGa)).mono ?_⟩
          rintro e w1 ⟨rfl, hb1⟩
          have bB := (Below.refl w1.heap.size w1).alloc (Nat.le_refl _) (.cells #[.int .i32 (comL x lowR).lo, .int .i32 (comL x lowR).hi] 26)
          have hJb := hJ _ _ _ (hJ _ _ _ hJa hb1) bB
          have hSb := (hSa.below hb1).below bB
          have hGb := (hGa.below hb1).below bB
          have hXb := (hXa.below hb1).below bB
          have hCb := BoxS.new w1 (comL x lowR)
          unfold spv
          dsimp only
          clear hJa hSa hGa hXa x0 x1 hb1 bB
          obtain ⟨c, hc⟩ : ∃ c, c = comL x lowR := ⟨_, rfl⟩
          have HC : Hid (c = comL x lowR) := hc
          rw [← hc] at hcb hst hPP hJb hSb hGb hXb hCb ⊢
          clear hc
          have hM0 : max c.lo Z = (if c.lo < Z then Z else c.lo) := by split <;> omega
          obtain ⟨M, hM⟩ : ∃ M, (if c.lo < Z then Z else c.lo) = M := ⟨_, rfl⟩
          rw [hM] at hM0
          rw [hM0] at hst
          gi_wp2
          clear hM
          obtain ⟨b1, b2, b3, b4, b5⟩ := hcb
          obtain ⟨W2, hW2⟩ : ∃ W2, W2 = w1.alloc (.cells #[.int .i32 c.lo, .int .i32 c.hi] 26) := ⟨_, rfl⟩
          obtain ⟨B8, hB8⟩ : ∃ B8, B8 = w1.heap.size := ⟨_, rfl⟩
          rw [← hW2] at hJb hSb hGb hXb hCb ⊢
          rw [← hB8] at hCb ⊢
          clear hW2 hB8
          gi_loopw [9] (fun r wi => ∃ y : Int, r = .int .i32 y ∧ c.lo ≤ y ∧ y ≤ 1114112 ∧ J (pre ++ upto c.lo (min y (c.hi + 1))) wi ∧ SPR wi 0 (some ⟨g, 0, none⟩) l ∧ GL wi ∧ BoxS wi B5 x ∧ BoxS wi B8 c) (fun r _ => (c.hi + 1 - intOf r).toNat)
          case atStart => exact ⟨M, rfl, by omega, by omega, by rw [upto_nil hst, List.append_nil]; exact hJb, hSb, hGb, hXb, hCb⟩
          case round =>
            clear hJb hSb hGb hXb hCb
            obtain ⟨y, rfl, hy0, hy1, hJy, hSy, hGy, hXy, hCy⟩ := hrel
            obtain ⟨x0, x1⟩ := hCy.at
            by_cases hyc : y ≤ c.hi
            · have hd : decide (y ≤ c.hi) = true := decide_eq_true hyc
              rw [show min y (c.hi + 1) = y by omega] at hJy
              have hpn : pre ++ upto c.lo y ++ [y] <+: runesL l := by
                have := hPP (y + 1) (by omega)
                rw [upto_succ hy0, ← List.append_assoc] at this
                exact this
              have hlN : (pre ++ upto c.lo y).length < N := by
                have := hpn.length_le
                simp only [List.length_append, List.length_cons, List.length_nil] at this ⊢
                omega
              obtain ⟨fn, tmps, assign, body, hy, hRd⟩ := hY _ y wr hJy hlN
              have HPN : Hid (pre ++ upto c.lo y ++ [y] <+: runesL l) := hpn
              clear hpn
              gi_wp2
              refine hRd.mono ?_
              rintro e W5 (⟨rfl, hJ5, hk5⟩ | ⟨rfl, hJx5⟩)
              · clear x0 x1 hy
                have hC5 := hCy.kp hk5
                obtain ⟨x0, x1⟩ := hC5.at
                gi_wp2
                go_roundw
                case rel => exact ⟨y + 1, by go_num, by omega, by omega, by rw [show min (y + 1) (c.hi + 1) = y + 1 by omega, upto_succ hy0, ← List.append_assoc]; exact hJ5, hSy.kp hk5, hGy.kp hk5, hXy.kp hk5, hC5⟩
                case measure => simp only [intOf]; omega
              · gi_wp2
                refine bodyPost_ret (results_none rfl _ _ _) rfl ?_
                exact ⟨⟨_, rfl⟩, .inr ⟨_, HPN.out, hJx5⟩⟩
            · have hd : decide (y ≤ c.hi) = false := decide_eq_false hyc
              rw [show min y (c.hi + 1) = c.hi + 1 by omega] at hJy
              have hM1 : max Z (c.hi + 1) = (if Z < c.hi + 1 then c.hi + 1 else Z) := by split <;> omega
              obtain ⟨M', hM'⟩ : ∃ M', (if Z < c.hi + 1 then c.hi + 1 else Z) = M' := ⟨_, rfl⟩
              rw [hM'] at hM1
              have HM1 : Hid (max Z (c.hi + 1) = M') := hM1
              clear hM1
              gi_wp2
              clear hM'
              refine ⟨⟨1, by omega, ?_, by go_num, ?_, hSy, hGy, hXy⟩, by simp only [intOf]; omega⟩
              · rw [← HM1.out, HZ.out, HC.out]; rfl
              · rw [HP.out, HC.out] at hJy
                rw [show pT x 0 = [] from rfl, List.append_nil] at hJy
                exact hJy
        · rw [show ((1 : Nat) : Int) = 1 from rfl]
          obtain ⟨Z, hZ⟩ : ∃ Z, Z = nS x z 1 := ⟨_, rfl⟩
          obtain ⟨pre, hpre⟩ : ∃ pre, pre = runesT l k ++ pT x 1 := ⟨_, rfl⟩
          have HZ : Hid (Z = nS x z 1) := hZ
          have HP : Hid (pre = runesT l k ++ pT x 1) := hpre
          rw [← hZ]
          rw [← hpre] at hJq
          have hcb := com_high HR1.out HR2.out
          have hst : min (max (comL x highR).lo Z) ((comL x highR).hi + 1) ≤ (comL x highR).lo := by rw [HZ.out]; exact start_high hz0 HR1.out hzx
          have hZ0 : 0 ≤ Z ∧ Z ≤ 1114112 := by
            have := com_low HR1.out HR2.out
            rw [HZ.out]
            show 0 ≤ max z ((comL x lowR).hi + 1) ∧ max z ((comL x lowR).hi + 1) ≤ 1114112
            omega
          have hPP : ∀ m, m ≤ (comL x highR).hi + 1 → pre ++ upto (comL x highR).lo m <+: runesL l := fun m hm => by
            refine List.IsPrefix.trans ?_ (runesT_pre l (k + 1))
            rw [runesT_succ HX.out, HP.out, List.append_assoc, List.prefix_append_right_inj]
            show rng (comL x lowR) ++ upto (comL x highR).lo m <+: rng (comL x lowR) ++ rng (comL x highR)
            rw [List.prefix_append_right_inj]
            exact upto_pre hm
          clear hZ hpre
          have bA := (Below.refl wr.heap.size wr).alloc (Nat.le_refl _) (.cells #[.int .i32 57344, .int .i32 1114111] 26)
          have hJa := hJ _ _ _ hJq bA
          have hSa := hSq.below bA
          have hGa := hGq.below bA
          have hXa := hXq.below bA
          obtain ⟨x0, x1⟩ := hXa.at
          clear hJq hSq hGq hXq bA
          gi_wp2_with fail
          refine ⟨trivial, (callsIn_wide.2 (common_any x highR _ hGa)).mono ?_⟩
          rintro e w1 ⟨rfl, hb1⟩
          have bB := (Below.refl w1.heap.size w1).alloc (Nat.le_refl _) (.cells #[.int .i32 (comL x highR).lo, .int .i32 (comL x highR).hi] 26)
          have hJb := hJ _ _ _ (hJ _ _ _ hJa hb1) bB
          have hSb := (hSa.below hb1).below bB
          have hGb := (hGa.below hb1).below bB
          have hXb := (hXa.below hb1).below bB
          have hCb := BoxS.new w1 (comL x highR)
          unfold spv
          dsimp only
          clear hJa hSa hGa hXa x0 x1 hb1 bB
          obtain ⟨c, hc⟩ : ∃ c, c = comL x highR := ⟨_, rfl⟩
          have HC : Hid (c = comL x highR) := hc
          rw [← hc] at hcb hst hPP hJb hSb hGb hXb hCb ⊢
          clear hc
          have hM0 : max c.lo Z = (if c.lo < Z then Z else c.lo) := by split <;> omega
          obtain ⟨M, hM⟩ : ∃ M, (if c.lo < Z then Z else c.lo) = M := ⟨_, rfl⟩
          rw [hM] at hM0
          rw [hM0] at hst
          gi_wp2
          clear hM
          obtain ⟨b1, b2, b3, b4, b5⟩ := hcb
          obtain ⟨W2, hW2⟩ : ∃ W2, W2 = w1.alloc (.cells #[.int .i32 c.lo, .int .i32 c.hi] 26) := ⟨_, rfl⟩
          obtain ⟨B8, hB8⟩ : ∃ B8, B8 = w1.heap.size := ⟨_, rfl⟩
          rw [← hW2] at hJb hSb hGb hXb hCb ⊢
          rw [← hB8] at hCb ⊢
          clear hW2 hB8
          gi_loopw [9] (fun r wi => ∃ y : Int, r = .int .i32 y ∧ c.lo ≤ y ∧ y ≤ 1114112 ∧ J (pre ++ upto c.lo (min y (c.hi + 1))) wi ∧ SPR wi 0 (some ⟨g, 0, none⟩) l ∧ GL wi ∧ BoxS wi B5 x ∧ BoxS wi B8 c) (fun r _ => (c.hi + 1 - intOf r).toNat)
          case atStart => exact ⟨M, rfl, by omega, by omega, by rw [upto_nil hst, List.append_nil]; exact hJb, hSb, hGb, hXb, hCb⟩
          case round =>
            clear hJb hSb hGb hXb hCb
            obtain ⟨y, rfl, hy0, hy1, hJy, hSy, hGy, hXy, hCy⟩ := hrel
            obtain ⟨x0, x1⟩ := hCy.at
            by_cases hyc : y ≤ c.hi
            · have hd : decide (y ≤ c.hi) = true := decide_eq_true hyc
              rw [show min y (c.hi + 1) = y by omega] at hJy
              have hpn : pre ++ upto c.lo y ++ [y] <+: runesL l := by
                have := hPP (y + 1) (by omega)
                rw [upto_succ hy0, ← List.append_assoc] at this
                exact this
              have hlN : (pre ++ upto c.lo y).length < N := by
                have := hpn.length_le
                simp only [List.length_append, List.length_cons, List.length_nil] at this ⊢
                omega
              obtain ⟨fn, tmps, assign, body, hy, hRd⟩ := hY _ y wr hJy hlN
              have HPN : Hid (pre ++ upto c.lo y ++ [y] <+: runesL l) := hpn
              clear hpn
              gi_wp2
              refine hRd.mono ?_
              rintro e W5 (⟨rfl, hJ5, hk5⟩ | ⟨rfl, hJx5⟩)
              · clear x0 x1 hy
                have hC5 := hCy.kp hk5
                obtain ⟨x0, x1⟩ := hC5.at
                gi_wp2
                go_roundw
                case rel => exact ⟨y + 1, by go_num, by omega, by omega, by rw [show min (y + 1) (c.hi + 1) = y + 1 by omega, upto_succ hy0, ← List.append_assoc]; exact hJ5, hSy.kp hk5, hGy.kp hk5, hXy.kp hk5, hC5⟩
                case measure => simp only [intOf]; omega
              · gi_wp2
                refine bodyPost_ret (results_none rfl _ _ _) rfl ?_
                exact ⟨⟨_, rfl⟩, .inr ⟨_, HPN.out, hJx5⟩⟩
            · have hd : decide (y ≤ c.hi) = false := decide_eq_false hyc
              rw [show min y (c.hi + 1) = c.hi + 1 by omega] at hJy
              have hM1 : max Z (c.hi + 1) = (if Z < c.hi + 1 then c.hi + 1 else Z) := by split <;> omega
              obtain ⟨M', hM'⟩ : ∃ M', (if Z < c.hi + 1 then c.hi + 1 else Z) = M' := ⟨_, rfl⟩
              rw [hM'] at hM1
              have HM1 : Hid (max Z (c.hi + 1) = M') := hM1
              clear hM1
              gi_wp2
              clear hM'
              refine ⟨⟨2, by omega, ?_, by go_num, ?_, hSy, hGy, hXy⟩, by simp only [intOf]; omega⟩
              · rw [← HM1.out, HZ.out, HC.out]; rfl
              · rw [HP.out, HC.out] at hJy
                rw [List.append_assoc] at hJy
                exact hJy
        · have hE : runesT l k ++ pT x 2 = runesT l (k + 1) := by rw [runesT_succ HX.out]; rfl
          rw [hE] at hJq
          have hnx := next_after HR2.out HR3.out hzx
          have hcb := com_low HR1.out HR2.out
          obtain ⟨Z, hZ⟩ : ∃ Z, Z = nS x z 2 := ⟨_, rfl⟩
          have hZ1 : 0 ≤ Z ∧ Z ≤ 1114112 ∧ Z ≤ x.hi + 1 := by
            have h2 := HR2.out
            rw [runeB_iff] at h2
            rw [hZ]
            show 0 ≤ max (max z ((comL x lowR).hi + 1)) ((comL x highR).hi + 1) ∧ max (max z ((comL x lowR).hi + 1)) ((comL x highR).hi + 1) ≤ 1114112 ∧ max (max z ((comL x lowR).hi + 1)) ((comL x highR).hi + 1) ≤ x.hi + 1
            omega
          rw [← hZ]
          clear hZ hnx hcb hE
          gi_wp2
          refine ⟨⟨k + 1, Z, by omega, rfl, by go_num, hZ1.1, hZ1.2.1, fun y hy => ?_, hJq, hSq, hGq⟩, by simp only [intOf]; omega⟩
          have := hR.next HX.out hy
          omega
    · have hkn : k = l.length := by omega
      subst hkn
      rw [runesT_all] at hJk
      clear hz
      gi_wp2
      go_end0
      exact ⟨⟨_, rfl⟩, .inl ⟨_, rfl, hJk⟩⟩
end Go.Proofs.YtaenmgikpkkflaaDoor
