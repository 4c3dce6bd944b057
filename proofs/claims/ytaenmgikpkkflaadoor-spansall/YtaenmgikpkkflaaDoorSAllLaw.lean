/- SpansAll: the walk. -/
import Derived.Test.YtaenmgikpkkflaaDoorSIter
import Derived.Test.YtaenmgikpkkflaaDoorSAsk
import Derived.Lib.QuietBelowIn
import Derived.Sort.QuietTacIn
import Derived.Sort.BigQuietIn
namespace Go.Proofs.YtaenmgikpkkflaaDoor
open Go.RowKit Go.Shelf
open Go.Joins
attribute [local go_sem] Oper.semAt_some
theorem all_stops (n : Nat) (hn : 1 ≤ n) (Bs : Nat) (a : Option Addr) (cap : Nat) (l : List Sp) (hlen : l.length ≤ 9223372036854775807) (hR : Rgt l) (w : World) (hBs : w.heap[Bs]? = some (.cells #[.slice a l.length cap] 27 (0, 0))) (hS : SPR w 0 a l) (hG : GL w) :
    SeqStopsK Fence.wide n Tryd.prog 26 #[.pointer (some ⟨Bs, 0, none⟩)] (fun r : Int => #[.int .i32 r]) KpS (fun ys => ys = runesL l) (fun pre => pre <+: runesL l) (runesL l).length w := fun lp J Jx W hW hJ _ hY h0 =>
  all1_in n hn lp Bs _ a cap l hlen hR J Jx (Nat.le_refl _)
    (fun pre A B hA hAB => hJ pre A B none hA ⟨hAB.os, hAB.tape, hAB.output, hAB.size, fun k hk _ => hAB.block k hk⟩ (fun r e => by cases e))
    hY W ((hW.block Bs (Array.getElem?_eq_some_iff.1 hBs).1).trans hBs) (hS.below hW) (hG.below hW) h0
theorem KpS.setBox {W : World} {B : Nat} {t : TypeId} {v : Value} (v' : Value) (hb : Boxed W B t v) (h6 : t ≠ 26) (h7 : t ≠ 27) (h2 : 2 ≤ B) : KpS W (W.setCell ⟨B, 0, none⟩ v') :=
  ⟨by simp, fun k hk => Below.heap_setCell _ _ _ k (fun e => by have e' : k = B := e; omega), fun k c T fr hk hT => Below.heap_setCell _ _ _ k (fun e => by
    have e' : k = B := e
    subst e'
    have := (show W.heap[k]? = _ from hb).symm.trans hk
    injection this with this
    injection this with _ e2 _
    rcases hT with h | h
    · exact h6 (e2.trans h)
    · exact h7 (e2.trans h))⟩
theorem keepsOthers_below {W W' : World} (h : Below W.heap.size W W') : KeepsOthers W W' := ⟨h.size, fun k _ hk _ => (h.block k (Array.getElem?_eq_some_iff.1 hk).1).trans hk⟩
theorem keepsOthers_refl (W : World) : KeepsOthers W W := ⟨Nat.le_refl _, fun _ _ h _ => h⟩
theorem boxed_below {W W' : World} {B B' : Nat} {t : TypeId} {v : Value} (h : Boxed W B t v) (hb : Below B' W W') (hB : B < B') : Boxed W' B t v := (hb.block B hB).trans h
/-- What a turn begins with. -/
structure Turn (W0 w : World) (B2 B3 B4 Bs : Nat) (a : Option Addr) (cap : Nat) (a' : Option Addr) (cap' : Nat) (l : List Sp) (k0 : Nat) : Prop where
  list : Boxed w B2 27 (.slice a l.length cap)
  stop : Boxed w B3 3 (.int .i64 (k0 : Nat))
  res : Boxed w B4 4 (.bool false)
  own : Boxed w Bs 27 (.slice a' l.length cap')
  row : SPR w 0 a' l
  sps : SPS w a l
  gl : GL w
  bel : Below W0.heap.size W0 w
theorem Turn.below {W0 w w' : World} {B2 B3 B4 Bs : Nat} {a : Option Addr} {cap : Nat} {a' : Option Addr} {cap' : Nat} {l : List Sp} {k0 : Nat} (h : Turn W0 w B2 B3 B4 Bs a cap a' cap' l k0) (hb : Below w.heap.size w w') : Turn W0 w' B2 B3 B4 Bs a cap a' cap' l k0 :=
  ⟨boxed_below h.list hb h.list.lt, boxed_below h.stop hb h.stop.lt, boxed_below h.res hb h.res.lt, boxed_below h.own hb h.own.lt, h.row.below hb, h.sps.below hb, h.gl.below hb, h.bel.trans (hb.mono h.bel.size)⟩
theorem SPR.set {w : World} {lo : Nat} {a : Option Addr} {l : List Sp} (h : SPR w lo a l) {B : Nat} (hB : B < lo) (v : Value) : SPR (w.setCell ⟨B, 0, none⟩ v) 0 a l := by
  rcases h with h | ⟨g, cur, h1, h2, h3, h4⟩
  · exact .inl h
  · exact .inr ⟨g, cur, h1, Nat.zero_le _, (Below.heap_setCell w ⟨B, 0, none⟩ v g (fun e => by have e' : g = B := e; omega)).trans h3, h4⟩
theorem mono_named {F : Fence} {n : Nat} {P : Program} {c : Code} {Q : Exit → Act → World → Prop} {a : Act} {w : World} (R : Nat → Exit → World → Prop)
    (h : c.wpIn F n P (fun e a' W => ∃ D, a' = { a with defers := { target := .collected D, args := #[] } :: a.defers } ∧ R D e W) a w)
    (hq : ∀ D e W, R D e W → Q e { a with defers := { target := .collected D, args := #[] } :: a.defers } W) : c.wpIn F n P Q a w :=
  wpIn_mono h (by rintro e a' W ⟨D, rfl, hr⟩; exact hq D e W hr)
theorem inBlock_both {id : Nat} {X : Exit → Act → World → Prop} {e : Exit} {a : Act} {w : World} (he : e = .normal ∨ e = .exit id) (h : X .normal a w) : Exit.inBlock id X e a w := by
  rcases he with rfl | rfl <;> simpa [Exit.inBlock] using h
/-- The activation in which the body of a round begins. -/
def actOf (a : Act) (r : Int) : Act := { tmps := (a.tmps.setIfInBounds 31 (.int .i32 r)).setIfInBounds 11 (.int .i32 r), defers := [] }
theorem range_act {F : Fence} {n : Nat} {P : Program} {g : Operand} {assign body : Code} {Q : Exit → Act → World → Prop} {a : Act} {w : World}
    (hro : F.round = none) (h1 : 1 ≤ n) {gf : Nat} {lb : Array Value} (hg : a.eval g = .func (.func gf) #[] lb) (hFg : F.fn gf) (eg : ∀ args w, (callFunc gf args).run P w = .ok (.enter gf args) w)
    {Kp : World → World → Prop} {S Sp : List Int → Prop} {N : Nat} {w0 : World} (hseq : SeqStopsK F (n - 1) P gf lb (fun r : Int => #[.int .i32 r]) Kp S Sp N w0)
    (hKt : ∀ {A B C : World}, Kp A B → Kp B C → Kp A C) (hKb : ∀ (W : World) (l : Nat) (o o' : Obj), w.heap.size ≤ l → W.heap[l]? = some o → o.isCells = false → o.isWalk = false → Kp W (W.putObj l o')) (hb0 : Below w0.heap.size w0 w)
    (I : List Int → World → Prop) (Ix : Code → List Int → World → Prop) (hI : OwnFrom w.heap.size I) (hIx : ∀ c, OwnFrom w.heap.size (Ix c)) (h0 : I [] w)
    (hassign : ∀ (l : Nat) (pre : List Int) (x : Int) (W : World) (K : Act → World → Prop), I pre W → (∀ a' W', KeepsFrom w.heap.size W W' → Kp W W' → I pre W' → a' = actOf a x → K a' W') →
      assign.wpIn (F.inRound l) (n - 1 - 1) P (Exit.then K (fun _ _ _ => False)) { tmps := ((#[31] : Array Tmp).zip #[Value.int .i32 x]).foldl (fun t (p, v) => t.setIfInBounds p v) a.tmps, defers := [] } W)
    (hbody : ∀ (l : Nat) (pre : List Int) (x : Int) (W : World), w.heap.size ≤ l → (∃ r, W.heap[l]? = some (.loop r)) → I pre W → pre.length < N → body.wpIn (F.inRound l) (n - 1 - 1) P (ownPostG w.heap.size Kp I Ix (pre ++ [x]) W) (actOf a x) W)
    (hdone : ∀ (D : Nat) (xs : List Int) (W : World), w.heap.size ≤ D → S xs → I xs W → W.heap[D]? = some (.deferred (some [])) → Q .normal { a with defers := { target := .collected D, args := #[] } :: a.defers } W)
    (hstop : ∀ (D : Nat) (c : Code) (pre : List Int) (W : World), w.heap.size ≤ D → Sp pre → Ix c pre W → W.heap[D]? = some (.deferred (some [])) → c.wpIn F n P Q { a with defers := { target := .collected D, args := #[] } :: a.defers } W) :
    (Code.rangeFunc g #[31] assign body).wpIn F n P Q a w :=
  wpIn_rangeFunc_ownH hro h1 hg hFg eg hseq hKt hKb hb0 (fun _ => rfl) I Ix hI hIx h0 (fun x a' _ => a' = actOf a x) (fun x a' => ownFrom_pure _ (fun _ => a' = actOf a x))
    (fun l pre x W K hi hk => hassign l pre x W K hi hk) (fun l pre x a' W h1 h2 h3 h4 h5 => by subst h4; exact hbody l pre x W h1 h2 h3 h5) hdone hstop
set_option maxRecDepth 100000 in
set_option maxHeartbeats 8000000 in
theorem all_walk (a : Option Addr) (cap : Nat) (l : List Sp) (stop : Int) (w : World) (hlc : l.length ≤ cap) (hcap : cap ≤ 9223372036854775807) (hlen : l.length ≤ 17592186044416) (hA : SPS w a l) (hG : GL w) :
    Calls Tryd.prog 6 #[.slice a l.length cap, .int .i64 stop] w fun e w' => e = .returned (.bool true) ∧ Below w.heap.size w w' := by
  refine (callsIn_wide (n := 3)).1 ?_
  have h1 : 1 ≤ 3 := by omega
  have HR := fun (wx : World) (hx : SPS wx a l) => refRight_any a cap l wx (by omega) hx
  have HA := fun (wx : World) (hx : SPS wx a l) => all_any a cap l wx hlen hx
  have HW := fun wx => within_any stop 3000 (by omega) (by omega) wx
  have hnf : ∀ (wx : World) (lb : Array Value), (binOp BinOp.eql 40 (.func (.func 26) #[] lb) .nilFunc).run Tryd.prog wx = .ok (.bool false) wx := fun wx lb => by rfl
  obtain ⟨pa, ea, qa, ra⟩ := rowV_eq l
  simp only [qa] at HR
  clear qa
  have b0 : Below w.heap.size w (((w.alloc (.cells #[.slice a l.length cap] 27)).alloc (.cells #[.int .i64 stop] 3)).alloc (.cells #[.bool false] 4)) := (((Below.refl _ w).alloc (Nat.le_refl _) _).alloc (by simp) _).alloc (by simp; omega) _
  have bL := ((Boxed.new w 27 (.slice a l.length cap)).alloc (.cells #[.int .i64 stop] 3)).alloc (.cells #[.bool false] 4)
  have bS := (Boxed.new (w.alloc (.cells #[.slice a l.length cap] 27)) 3 (.int .i64 stop)).alloc (.cells #[.bool false] 4)
  have bF := Boxed.new ((w.alloc (.cells #[.slice a l.length cap] 27)).alloc (.cells #[.int .i64 stop] 3)) 4 (.bool false)
  simp only [World.size_alloc] at bS bF
  refine callsIn_of_wp_marks Tryd.func6 rfl trivial ?_ rfl
  simp only [Tryd.ntmps6, List.size_toArray, List.length_cons, List.length_nil, Nat.reduceAdd, Nat.reduceSub, Array.replicate_succ, Array.replicate_zero, List.push_toArray, List.append_toArray, List.nil_append, List.cons_append]
  have hA0 := hA.below b0
  have hG0 := hG.below b0
  gi_wp2_with fail
  refine ⟨trivial, (callsIn_wide.2 (HR _ hA0)).mono ?_⟩
  rintro e w1 ⟨rfl, hb1⟩
  have bL1 := boxed_below bL hb1 (by simp; omega)
  have bS1 := boxed_below bS hb1 (by simp)
  have bF1 := boxed_below bF hb1 (by simp)
  have hA1 := hA0.below hb1
  have hG1 := hG0.below hb1
  have B1 := b0.trans (hb1.mono b0.size)
  clear bL bS bF b0 hA0 hG0 HR hb1
  by_cases h0 : ea = 0
  · subst h0
    have hRg := ra rfl
    have h0 : (((0 : Nat) : Int) != 0) = false := by simp
    clear ra
    have cL := bL1.cell
    gi_wp2_with fail
    refine ⟨trivial, (callsIn_wide.2 (HA _ hA1)).mono ?_⟩
    rintro e w2 ⟨Bs, v, rfl, hBs, hv, ⟨a', cap', rfl, hc1, hc2, hrow⟩, hb2⟩
    have bL2 := boxed_below bL1 hb2 bL1.lt
    have bS2 := boxed_below bS1 hb2 bS1.lt
    have bF2 := boxed_below bF1 hb2 bF1.lt
    have bO2 : Boxed w2 Bs 27 (.slice a' l.length cap') := hv
    have B2 := B1.trans (hb2.mono B1.size)
    have cS := bS2.cell
    have fS := bS2.frozen
    have hlt1 := bF1.lt
    have hB2 : w.heap.size < w1.heap.size := by omega
    clear bL1 bS1 bF1 hA1 hG1 hb2 B1 cL HA hv
    gi_wp2_with fail
    refine ⟨trivial, (callsIn_wide.2 (HW _)).mono ?_⟩
    rintro e w3 ⟨k0, hk1, hk2, rfl, he⟩
    obtain rfl := he.symm
    gi_wp2_with fail
    have BW : Below w.heap.size w (w2.setCell ⟨w.heap.size + 1, 0, none⟩ (.int .i64 (k0 : Nat))) := B2.setCell (p := ⟨w.heap.size + 1, 0, none⟩) (show w.heap.size ≤ w.heap.size + 1 by omega) _
    have HT : Turn w (w2.setCell ⟨w.heap.size + 1, 0, none⟩ (.int .i64 (k0 : Nat))) w.heap.size (w.heap.size + 1) (w.heap.size + 1 + 1) Bs a cap a' cap' l k0 :=
      ⟨bL2.other (by omega) _, bS2.set _, bF2.other (by omega) _, bO2.other (by omega) _, hrow.set (by omega) _, hA.below BW, hG.below BW, BW⟩
    obtain ⟨Wt, hWt⟩ : ∃ Wt, Wt = w2.setCell ⟨w.heap.size + 1, 0, none⟩ (.int .i64 (k0 : Nat)) := ⟨_, rfl⟩
    rw [← hWt] at HT ⊢
    obtain ⟨z2, hz2⟩ : ∃ z, z = w.heap.size := ⟨_, rfl⟩
    have hsz : z2 + 1 + 1 < Wt.heap.size ∧ 2 ≤ z2 := ⟨by rw [hz2]; exact HT.res.lt, by rw [hz2]; exact hG.two⟩
    have HZ2 : Hid (z2 = w.heap.size) := hz2
    rw [← hz2] at HT ⊢
    clear hWt BW B2 bL2 bS2 bF2 bO2 cS fS hrow hB2 hlt1 hBs HW hz2 hA hG
    refine wpIn_loop_rounds 3 ?_
    rw [roundsIn_succ]
    gi_wp2_with fail
    have hBta : Below Wt.heap.size Wt ((Wt.alloc (.cells #[.int .i64 0] 3)).alloc (.cells #[.int .i32 (-1)] 21)) := ((Below.refl _ Wt).alloc (Nat.le_refl _) _).alloc (by simp) _
    have HUa := HT.below hBta
    have b9 := (Boxed.new Wt 3 (.int .i64 0)).alloc (.cells #[.int .i32 (-1)] 21)
    have b10 := Boxed.new (Wt.alloc (.cells #[.int .i64 0] 3)) 21 (.int .i32 (-1))
    simp only [World.size_alloc] at b10
    obtain ⟨B9a, hB9⟩ : ∃ B, B = Wt.heap.size := ⟨_, rfl⟩
    have H9a : Hid (B9a = Wt.heap.size) := hB9
    have hz9a : z2 + 1 + 1 < B9a ∧ 2 ≤ B9a := by rw [hB9]; omega
    obtain ⟨V0a, hV0⟩ : ∃ V0a, V0a = (Wt.alloc (.cells #[.int .i64 0] 3)).alloc (.cells #[.int .i32 (-1)] 21) := ⟨_, rfl⟩
    rw [← hV0] at hBta HUa b9 b10 ⊢
    rw [← hB9] at b9 b10 ⊢
    clear hV0 hB9
    refine mono_named (fun Da e W => (e = .normal ∨ e = .exit 2) ∧ ∃ cnt : Nat, Boxed W B9a 3 (.int .i64 (cnt : Nat)) ∧ (cnt = (runesL l).length ∨ cnt = k0) ∧ cnt ≤ (runesL l).length ∧ Below Wt.heap.size Wt W ∧ V0a.heap.size ≤ Da ∧ W.heap[Da]? = some (.deferred (some []))) ?range ?after
    case range =>
      refine range_act rfl h1 (gf := 26) (lb := #[.pointer (some ⟨Bs, 0, none⟩)]) rfl trivial (enters_of Tryd.func26 (by kernel_rfl) rfl)
        (all_stops 2 (by omega) Bs a' cap' l (by omega) hRg V0a HUa.own HUa.row HUa.gl) KpS.trans (KpS.putObj HUa.gl.two) (Below.refl _ _)
        (fun pre W => (Boxed W B9a 3 (.int .i64 (pre.length : Nat)) ∧ Boxed W (B9a + 1) 21 (.int .i32 (lastR pre))) ∧ pre.length < k0 ∧ Below Wt.heap.size Wt W)
        (fun c pre W => (pre <+: runesL l → c = .exit 2 ∧ pre.length = k0) ∧ (pre <+: runesL l → Boxed W B9a 3 (.int .i64 (pre.length : Nat))) ∧ (pre <+: runesL l → Below Wt.heap.size Wt W))
        ?own ?ownx ⟨⟨b9, b10⟩, by simp; omega, hBta⟩
        ?assign ?body ?done ?stop
      case own => exact OwnFrom.and (OwnFrom.and (Own.from (boxed_own _ _ (fun pre : List Int => .int .i64 (pre.length : Nat))) _) (Own.from (boxed_own _ _ (fun pre : List Int => .int .i32 (lastR pre))) _)) (OwnFrom.and (ownFrom_pure _ (fun pre : List Int => pre.length < k0)) (ownFrom_below (Nat.le_refl _) hBta.size))
      case ownx => exact fun c => OwnFrom.and (ownFrom_pure _ (fun pre : List Int => pre <+: runesL l → c = .exit 2 ∧ pre.length = k0)) (OwnFrom.and (Own.from (show Go.Own (fun (pre : List Int) W => pre <+: runesL l → Boxed W B9a 3 (.int .i64 (pre.length : Nat))) from fun pre A B row hs hg hr hp => boxed_own B9a 3 (fun pre : List Int => .int .i64 (pre.length : Nat)) pre A B row (hs hp) hg hr) _) (fun pre A B row hs hg hr hp => ownFrom_below (β := Unit) (Nat.le_refl _) hBta.size () A B row (hs hp) hg hr))
      case assign =>
        rintro lp pre r W K hI hK
        gi_wp2
        exact hK _ _ ((keepsOthers_refl W).from _) (KpS.refl W) hI rfl
      case body =>
        rintro lp pre r W hl ⟨rr, hrr⟩ ⟨⟨c9, c10⟩, hlk, hB⟩ hlt
        simp only [actOf, List.setIfInBounds_toArray, List.set_cons_succ, List.set_cons_zero]
        have HU2 := HT.below hB
        have cL := HU2.list.cell
        have cS := HU2.stop.cell
        have k10 := c10.cell
        have k4 := HU2.res.cell
        have f4 := HU2.res.frozen
        by_cases hrl : r ≤ lastR pre
        · have dl : decide (r ≤ lastR pre) = true := decide_eq_true hrl
          gi_wp2_with (refine ⟨(show Fence.wide.fn 11 from trivial), ?_⟩)
          refine ⟨(KeepsOthers.setCell W ⟨z2 + 1 + 1, 0, none⟩ (.bool false)).from _, ?_⟩
          have hno : ¬ (pre ++ [r]) <+: runesL l := fun h => by have := lastR_lt hRg h; omega
          exact ⟨fun h => absurd h hno, fun h => absurd h hno, fun h => absurd h hno⟩
        · have dl : decide (r ≤ lastR pre) = false := decide_eq_false hrl
          have HIn := in_any a cap l r W hlc hcap HU2.sps hRg HU2.gl
          cases hin : inB l r with
          | false =>
            rw [hin] at HIn
            gi_wp2_with fail
            refine ⟨trivial, (CallsIn.inRound lp (callsIn_wide.2 HIn)).mono ?_⟩
            rintro e w5 ⟨rfl, hb5⟩
            have f4 := (boxed_below HU2.res hb5 HU2.res.lt).frozen
            have k4 := (boxed_below HU2.res hb5 HU2.res.lt).cell
            gi_wp2_with fail
            refine ⟨((keepsOthers_below hb5).trans (KeepsOthers.setCell _ ⟨z2 + 1 + 1, 0, none⟩ (.bool false))).from _, ?_⟩
            have hno : ¬ (pre ++ [r]) <+: runesL l := fun h => by
              have := (runesL_mem (h.subset (by simp : r ∈ pre ++ [r]))).1
              rw [hin] at this
              cases this
            exact ⟨fun h => absurd h hno, fun h => absurd h hno, fun h => absurd h hno⟩
          | true =>
            rw [hin] at HIn
            gi_wp2_with fail
            refine ⟨trivial, (CallsIn.inRound lp (callsIn_wide.2 HIn)).mono ?_⟩
            rintro e w5 ⟨rfl, hb5⟩
            have c9' := boxed_below c9 hb5 c9.lt
            have c10' := boxed_below c10 hb5 c10.lt
            have hU5 := HU2.below hb5
            have B5 := hB.trans (hb5.mono hB.size)
            have k9 := c9'.cell
            have f9 := c9'.frozen
            have k10 := c10'.cell
            have f10 := c10'.frozen
            have k3 := hU5.stop.cell
            clear cL cS k4 f4 dl hin
            have hks : KeepsOthers W ((w5.setCell ⟨B9a + 1, 0, none⟩ (.int .i32 r)).setCell ⟨B9a, 0, none⟩ (.int .i64 ((pre.length : Int) + 1))) := ((keepsOthers_below hb5).trans (KeepsOthers.setCell _ _ _)).trans (KeepsOthers.setCell _ _ _)
            have e1 : ((pre ++ [r]).length : Int) = (pre.length : Int) + 1 := by simp
            have g9 : Boxed ((w5.setCell ⟨B9a + 1, 0, none⟩ (.int .i32 r)).setCell ⟨B9a, 0, none⟩ (.int .i64 ((pre.length : Int) + 1))) B9a 3 (.int .i64 ((pre ++ [r]).length : Nat)) := by rw [e1]; exact (c9'.other (by omega) _).set _
            have gB : Below Wt.heap.size Wt ((w5.setCell ⟨B9a + 1, 0, none⟩ (.int .i32 r)).setCell ⟨B9a, 0, none⟩ (.int .i64 ((pre.length : Int) + 1))) :=
              (B5.setCell (p := ⟨B9a + 1, 0, none⟩) (show Wt.heap.size ≤ B9a + 1 by rw [H9a.out]; omega) _).setCell (p := ⟨B9a, 0, none⟩) (show Wt.heap.size ≤ B9a by rw [H9a.out]; exact Nat.le_refl _) _
            by_cases hkk : pre.length + 1 = k0
            · have dk : ((pre.length : Int) + 1 == (k0 : Int)) = true := by simp; omega
              clear e1
              gi_wp2_with fail
              exact ⟨hks.from _, fun _ => ⟨rfl, by simp; omega⟩, fun _ => g9, fun _ => gB⟩
            · have dk : ((pre.length : Int) + 1 == (k0 : Int)) = false := by simp; omega
              have g10 : Boxed ((w5.setCell ⟨B9a + 1, 0, none⟩ (.int .i32 r)).setCell ⟨B9a, 0, none⟩ (.int .i64 ((pre.length : Int) + 1))) (B9a + 1) 21 (.int .i32 (lastR (pre ++ [r]))) := by rw [lastR_snoc]; exact (c10'.set _).other (by omega) _
              have gK : KpS W ((w5.setCell ⟨B9a + 1, 0, none⟩ (.int .i32 r)).setCell ⟨B9a, 0, none⟩ (.int .i64 ((pre.length : Int) + 1))) :=
                (KpS.of_below hb5 HU2.gl.two).trans ((KpS.setBox _ c10' (by decide) (by decide) (by omega)).trans (KpS.setBox _ (c9'.other (B' := B9a + 1) (by omega) _) (by decide) (by decide) (by omega)))
              clear e1
              gi_wp2_with fail
              exact ⟨hks.from _, gK, ⟨g9, g10⟩, by simp; omega, gB⟩
      case done =>
        rintro Da ys W hD rfl ⟨⟨c9, c10⟩, hlk, hB⟩ hK
        exact ⟨Da, rfl, .inl rfl, _, c9, .inl rfl, Nat.le_refl _, hB, hD, hK⟩
      case stop =>
        rintro Da c pre W hD hp ⟨hx1, hx2, hx3⟩ hK
        obtain ⟨rfl, hpk⟩ := hx1 hp
        have c9 := hx2 hp
        have hB := hx3 hp
        gi_wp2_with fail
        exact ⟨_, c9, .inr hpk, hp.length_le⟩
    case after =>
      rintro Da e W ⟨he, cnt, c9, hcnt, hle, hB, hD, hK⟩
      refine inBlock_both he ?_
      clear he
      have HU3 := HT.below hB
      have cL := cell_regrown HU3.list.cell
      have cS := cell_regrown HU3.stop.cell
      have c9k := cell_regrown c9.cell
      have hSl := runesL_length hRg
      obtain ⟨S, hS⟩ : ∃ S, S = sizeA l := ⟨_, rfl⟩
      have HSz := fun (d : Nat) (os : Array Obj) => size_any a cap l (Go.Sort.grow (redrawn W d) os) (by omega) (HU3.sps.below (below_regrown W d os)) hRg (HU3.gl.below (below_regrown W d os))
      rw [← hS] at hSl HSz
      have dgt : decide (S < (cnt : Int)) = false := decide_eq_false (by omega)
      by_cases hck : cnt = k0
      · have dn : ((cnt : Int) != (k0 : Int)) = false := by simp; omega
        clear hS hcnt hle hck
        gi_wp2_with fail
        refine wpIn_region_quiet_below rfl (by kernel_rfl) (by kernel_rfl) ?_
        repeat (gi_big_quiet_step (fail))
        refine wpQuietIn_step (fun _ _ _ _ => trivial) (fun K hK => ?_)
        go_simp
        refine hK _ ?_
        clear hK K
        repeat (gi_big_quiet_step (fail))
        refine wpQuietIn_step (fun _ _ _ _ => trivial) (fun K hK => ?_)
        go_simp
        apply Exists.intro
        refine ⟨fun _ => ?_, hK _ ?_⟩
        · exact CallsIn.regrown_of (callsIn_wide.2 (HSz _ _))
        clear hK K
        repeat (gi_big_quiet_step (fail))
        refine wpQuietIn_nil ?_
        intro W5a hw'
        have hb5 : Below W.heap.size W W5a := by
          obtain ⟨⟨dq, osq⟩, rfl⟩ := hw'
          exact below_regrown _ _ _
        clear hw' cL cS c9k HSz dgt dn
        have HVa := HU3.below hb5
        skip
        have hK5a : W5a.heap[Da]? = some (.deferred (some [])) := (hb5.block Da (Array.getElem?_eq_some_iff.1 hK).1).trans hK
        have hD0a : w.heap.size ≤ Da := by
          have h1 := hBta.size
          have h2 := HT.bel.size
          omega
        have hDla : Da < W5a.heap.size := (Array.getElem?_eq_some_iff.1 hK5a).1
        have hsVa : z2 + 1 + 1 < W5a.heap.size := HVa.res.lt
        clear hb5 hK HU3 c9 hB
        gi_wp2_with fail
        rw [roundsIn_succ]
        gi_wp2_with fail
        have hBtb : Below W5a.heap.size W5a ((W5a.alloc (.cells #[.int .i64 0] 3)).alloc (.cells #[.int .i32 (-1)] 21)) := ((Below.refl _ W5a).alloc (Nat.le_refl _) _).alloc (by simp) _
        have HUb := HVa.below hBtb
        have b9 := (Boxed.new W5a 3 (.int .i64 0)).alloc (.cells #[.int .i32 (-1)] 21)
        have b10 := Boxed.new (W5a.alloc (.cells #[.int .i64 0] 3)) 21 (.int .i32 (-1))
        simp only [World.size_alloc] at b10
        obtain ⟨B9b, hB9⟩ : ∃ B, B = W5a.heap.size := ⟨_, rfl⟩
        have H9b : Hid (B9b = W5a.heap.size) := hB9
        have hz9b : z2 + 1 + 1 < B9b ∧ 2 ≤ B9b := by rw [hB9]; omega
        obtain ⟨V0b, hV0⟩ : ∃ V0b, V0b = (W5a.alloc (.cells #[.int .i64 0] 3)).alloc (.cells #[.int .i32 (-1)] 21) := ⟨_, rfl⟩
        rw [← hV0] at hBtb HUb b9 b10 ⊢
        rw [← hB9] at b9 b10 ⊢
        clear hV0 hB9
        refine mono_named (fun Db e W => (e = .normal ∨ e = .exit 2) ∧ ∃ cnt : Nat, Boxed W B9b 3 (.int .i64 (cnt : Nat)) ∧ (cnt = (runesL l).length ∨ cnt = k0) ∧ cnt ≤ (runesL l).length ∧ Below W5a.heap.size W5a W ∧ V0b.heap.size ≤ Db ∧ W.heap[Db]? = some (.deferred (some []))) ?range ?after
        case range =>
          refine range_act rfl h1 (gf := 26) (lb := #[.pointer (some ⟨Bs, 0, none⟩)]) rfl trivial (enters_of Tryd.func26 (by kernel_rfl) rfl)
            (all_stops 2 (by omega) Bs a' cap' l (by omega) hRg V0b HUb.own HUb.row HUb.gl) KpS.trans (KpS.putObj HUb.gl.two) (Below.refl _ _)
            (fun pre W => (Boxed W B9b 3 (.int .i64 (pre.length : Nat)) ∧ Boxed W (B9b + 1) 21 (.int .i32 (lastR pre))) ∧ pre.length < k0 ∧ Below W5a.heap.size W5a W)
            (fun c pre W => (pre <+: runesL l → c = .exit 2 ∧ pre.length = k0) ∧ (pre <+: runesL l → Boxed W B9b 3 (.int .i64 (pre.length : Nat))) ∧ (pre <+: runesL l → Below W5a.heap.size W5a W))
            ?own ?ownx ⟨⟨b9, b10⟩, by simp; omega, hBtb⟩
            ?assign ?body ?done ?stop
          case own => exact OwnFrom.and (OwnFrom.and (Own.from (boxed_own _ _ (fun pre : List Int => .int .i64 (pre.length : Nat))) _) (Own.from (boxed_own _ _ (fun pre : List Int => .int .i32 (lastR pre))) _)) (OwnFrom.and (ownFrom_pure _ (fun pre : List Int => pre.length < k0)) (ownFrom_below (Nat.le_refl _) hBtb.size))
          case ownx => exact fun c => OwnFrom.and (ownFrom_pure _ (fun pre : List Int => pre <+: runesL l → c = .exit 2 ∧ pre.length = k0)) (OwnFrom.and (Own.from (show Go.Own (fun (pre : List Int) W => pre <+: runesL l → Boxed W B9b 3 (.int .i64 (pre.length : Nat))) from fun pre A B row hs hg hr hp => boxed_own B9b 3 (fun pre : List Int => .int .i64 (pre.length : Nat)) pre A B row (hs hp) hg hr) _) (fun pre A B row hs hg hr hp => ownFrom_below (β := Unit) (Nat.le_refl _) hBtb.size () A B row (hs hp) hg hr))
          case assign =>
            rintro lp pre r W K hI hK
            gi_wp2
            exact hK _ _ ((keepsOthers_refl W).from _) (KpS.refl W) hI rfl
          case body =>
            rintro lp pre r W hl ⟨rr, hrr⟩ ⟨⟨c9, c10⟩, hlk, hB⟩ hlt
            simp only [actOf, List.setIfInBounds_toArray, List.set_cons_succ, List.set_cons_zero]
            have HU2 := HVa.below hB
            have cL := HU2.list.cell
            have cS := HU2.stop.cell
            have k10 := c10.cell
            have k4 := HU2.res.cell
            have f4 := HU2.res.frozen
            by_cases hrl : r ≤ lastR pre
            · have dl : decide (r ≤ lastR pre) = true := decide_eq_true hrl
              gi_wp2_with (refine ⟨(show Fence.wide.fn 11 from trivial), ?_⟩)
              refine ⟨(KeepsOthers.setCell W ⟨z2 + 1 + 1, 0, none⟩ (.bool false)).from _, ?_⟩
              have hno : ¬ (pre ++ [r]) <+: runesL l := fun h => by have := lastR_lt hRg h; omega
              exact ⟨fun h => absurd h hno, fun h => absurd h hno, fun h => absurd h hno⟩
            · have dl : decide (r ≤ lastR pre) = false := decide_eq_false hrl
              have HIn := in_any a cap l r W hlc hcap HU2.sps hRg HU2.gl
              cases hin : inB l r with
              | false =>
                rw [hin] at HIn
                gi_wp2_with fail
                refine ⟨trivial, (CallsIn.inRound lp (callsIn_wide.2 HIn)).mono ?_⟩
                rintro e w5 ⟨rfl, hb5⟩
                have f4 := (boxed_below HU2.res hb5 HU2.res.lt).frozen
                have k4 := (boxed_below HU2.res hb5 HU2.res.lt).cell
                gi_wp2_with fail
                refine ⟨((keepsOthers_below hb5).trans (KeepsOthers.setCell _ ⟨z2 + 1 + 1, 0, none⟩ (.bool false))).from _, ?_⟩
                have hno : ¬ (pre ++ [r]) <+: runesL l := fun h => by
                  have := (runesL_mem (h.subset (by simp : r ∈ pre ++ [r]))).1
                  rw [hin] at this
                  cases this
                exact ⟨fun h => absurd h hno, fun h => absurd h hno, fun h => absurd h hno⟩
              | true =>
                rw [hin] at HIn
                gi_wp2_with fail
                refine ⟨trivial, (CallsIn.inRound lp (callsIn_wide.2 HIn)).mono ?_⟩
                rintro e w5 ⟨rfl, hb5⟩
                have c9' := boxed_below c9 hb5 c9.lt
                have c10' := boxed_below c10 hb5 c10.lt
                have hU5 := HU2.below hb5
                have B5 := hB.trans (hb5.mono hB.size)
                have k9 := c9'.cell
                have f9 := c9'.frozen
                have k10 := c10'.cell
                have f10 := c10'.frozen
                have k3 := hU5.stop.cell
                clear cL cS k4 f4 dl hin
                have hks : KeepsOthers W ((w5.setCell ⟨B9b + 1, 0, none⟩ (.int .i32 r)).setCell ⟨B9b, 0, none⟩ (.int .i64 ((pre.length : Int) + 1))) := ((keepsOthers_below hb5).trans (KeepsOthers.setCell _ _ _)).trans (KeepsOthers.setCell _ _ _)
                have e1 : ((pre ++ [r]).length : Int) = (pre.length : Int) + 1 := by simp
                have g9 : Boxed ((w5.setCell ⟨B9b + 1, 0, none⟩ (.int .i32 r)).setCell ⟨B9b, 0, none⟩ (.int .i64 ((pre.length : Int) + 1))) B9b 3 (.int .i64 ((pre ++ [r]).length : Nat)) := by rw [e1]; exact (c9'.other (by omega) _).set _
                have gB : Below W5a.heap.size W5a ((w5.setCell ⟨B9b + 1, 0, none⟩ (.int .i32 r)).setCell ⟨B9b, 0, none⟩ (.int .i64 ((pre.length : Int) + 1))) :=
                  (B5.setCell (p := ⟨B9b + 1, 0, none⟩) (show W5a.heap.size ≤ B9b + 1 by rw [H9b.out]; omega) _).setCell (p := ⟨B9b, 0, none⟩) (show W5a.heap.size ≤ B9b by rw [H9b.out]; exact Nat.le_refl _) _
                by_cases hkk : pre.length + 1 = k0
                · have dk : ((pre.length : Int) + 1 == (k0 : Int)) = true := by simp; omega
                  clear e1
                  gi_wp2_with fail
                  exact ⟨hks.from _, fun _ => ⟨rfl, by simp; omega⟩, fun _ => g9, fun _ => gB⟩
                · have dk : ((pre.length : Int) + 1 == (k0 : Int)) = false := by simp; omega
                  have g10 : Boxed ((w5.setCell ⟨B9b + 1, 0, none⟩ (.int .i32 r)).setCell ⟨B9b, 0, none⟩ (.int .i64 ((pre.length : Int) + 1))) (B9b + 1) 21 (.int .i32 (lastR (pre ++ [r]))) := by rw [lastR_snoc]; exact (c10'.set _).other (by omega) _
                  have gK : KpS W ((w5.setCell ⟨B9b + 1, 0, none⟩ (.int .i32 r)).setCell ⟨B9b, 0, none⟩ (.int .i64 ((pre.length : Int) + 1))) :=
                    (KpS.of_below hb5 HU2.gl.two).trans ((KpS.setBox _ c10' (by decide) (by decide) (by omega)).trans (KpS.setBox _ (c9'.other (B' := B9b + 1) (by omega) _) (by decide) (by decide) (by omega)))
                  clear e1
                  gi_wp2_with fail
                  exact ⟨hks.from _, gK, ⟨g9, g10⟩, by simp; omega, gB⟩
          case done =>
            rintro Db ys W hD rfl ⟨⟨c9, c10⟩, hlk, hB⟩ hK
            exact ⟨Db, rfl, .inl rfl, _, c9, .inl rfl, Nat.le_refl _, hB, hD, hK⟩
          case stop =>
            rintro Db c pre W hD hp ⟨hx1, hx2, hx3⟩ hK
            obtain ⟨rfl, hpk⟩ := hx1 hp
            have c9 := hx2 hp
            have hB := hx3 hp
            gi_wp2_with fail
            exact ⟨_, c9, .inr hpk, hp.length_le⟩
        case after =>
          rintro Db e W ⟨he, cnt, c9, hcnt, hle, hB, hD, hK⟩
          refine inBlock_both he ?_
          clear he
          have HU3 := HVa.below hB
          have cL := cell_regrown HU3.list.cell
          have cS := cell_regrown HU3.stop.cell
          have c9k := cell_regrown c9.cell
          have hSl := runesL_length hRg
          obtain ⟨S, hS⟩ : ∃ S, S = sizeA l := ⟨_, rfl⟩
          have HSz := fun (d : Nat) (os : Array Obj) => size_any a cap l (Go.Sort.grow (redrawn W d) os) (by omega) (HU3.sps.below (below_regrown W d os)) hRg (HU3.gl.below (below_regrown W d os))
          rw [← hS] at hSl HSz
          have dgt : decide (S < (cnt : Int)) = false := decide_eq_false (by omega)
          by_cases hck : cnt = k0
          · have dn : ((cnt : Int) != (k0 : Int)) = false := by simp; omega
            clear hS hcnt hle hck
            gi_wp2_with fail
            refine wpIn_region_quiet_below rfl (by kernel_rfl) (by kernel_rfl) ?_
            repeat (gi_big_quiet_step (fail))
            refine wpQuietIn_step (fun _ _ _ _ => trivial) (fun K hK => ?_)
            go_simp
            refine hK _ ?_
            clear hK K
            repeat (gi_big_quiet_step (fail))
            refine wpQuietIn_step (fun _ _ _ _ => trivial) (fun K hK => ?_)
            go_simp
            apply Exists.intro
            refine ⟨fun _ => ?_, hK _ ?_⟩
            · exact CallsIn.regrown_of (callsIn_wide.2 (HSz _ _))
            clear hK K
            repeat (gi_big_quiet_step (fail))
            refine wpQuietIn_nil ?_
            intro W5b hw'
            have hb5 : Below W.heap.size W W5b := by
              obtain ⟨⟨dq, osq⟩, rfl⟩ := hw'
              exact below_regrown _ _ _
            clear hw' cL cS c9k HSz dgt dn
            have HVb := HU3.below hb5
            have hK5a := ((hb5.block Da (Nat.lt_of_lt_of_le hDla hB.size)).trans ((hB.block Da hDla).trans hK5a))
            have hK5b : W5b.heap[Db]? = some (.deferred (some [])) := (hb5.block Db (Array.getElem?_eq_some_iff.1 hK).1).trans hK
            have hD0b : w.heap.size ≤ Db := by
              have h1 := hBtb.size
              have h2 := HVa.bel.size
              omega
            have hDlb : Db < W5b.heap.size := (Array.getElem?_eq_some_iff.1 hK5b).1
            have hsVb : z2 + 1 + 1 < W5b.heap.size := HVb.res.lt
            clear hb5 hK HU3 c9 hB
            gi_wp2_with fail
            rw [roundsIn_succ]
            gi_wp2_with fail
            refine ⟨trivial, (callsIn_wide.2 (known_any _ HVb.gl)).mono ?_⟩
            rintro e w9 ⟨rfl, hb9⟩
            have HX := HVb.below hb9
            have k4 := HX.res.cell
            have f4 := HX.res.frozen
            gi_wp2_with fail
            have q4 := HX.res.set (.bool true)
            have KO := KeepsOthers.setCell w9 ⟨z2 + 1 + 1, 0, none⟩ (.bool true)
            have d9a := KO.same Da _ ((hb9.block Da (Array.getElem?_eq_some_iff.1 hK5a).1).trans hK5a) rfl
            have d9b := KO.same Db _ ((hb9.block Db hDlb).trans hK5b) rfl
            have BX : Below w.heap.size w (w9.setCell ⟨z2 + 1 + 1, 0, none⟩ (.bool true)) := HX.bel.setCell (p := ⟨z2 + 1 + 1, 0, none⟩) (show w.heap.size ≤ z2 + 1 + 1 by rw [HZ2.out]; omega) _
            obtain ⟨WX, hWX⟩ : ∃ WX, WX = w9.setCell ⟨z2 + 1 + 1, 0, none⟩ (.bool true) := ⟨_, rfl⟩
            rw [← hWX] at q4 d9a d9b BX ⊢
            clear hWX KO
            have hne : Da ≠ Db := by
              have := hBtb.size
              omega
            have e1 : (WX.putObj Db (.deferred none)).heap[Da]? = some (.deferred (some [])) := (World.putObj_heap_other hne).trans d9a
            have c1 := cell_kept q4.cell (grownBy_putObj' WX Db (.deferred none)) (fun r e => by cases e; exact ⟨_, d9b, rfl⟩)
            have c2 := cell_kept c1 (grownBy_putObj' (WX.putObj Db (.deferred none)) Da (.deferred none)) (fun r e => by cases e; exact ⟨_, e1, rfl⟩)
            have sDa : w.heap.size ≤ Da := hD0a
            have sDb : w.heap.size ≤ Db := by
              have := hBtb.size
              have := HVa.bel.size
              omega
            have Ba := BX.trans (belowK_b (w := w) (Nat.le_refl _) WX Db _ (.deferred none) sDb d9b rfl rfl)
            have Bb := Ba.trans (belowK_b (w := w) (Nat.le_refl _) _ Da _ (.deferred none) sDa e1 rfl rfl)
            refine ⟨by simp, .inl ⟨Db, _, rfl, run_takeDeferred d9b, ?_⟩⟩
            refine ⟨by simp, .inl ⟨Da, _, rfl, run_takeDeferred e1, ?_⟩⟩
            exact ⟨.bool true, by simp [results, Tryd.results6, go_sem, c2], rfl, Bb⟩
          · have dn : ((cnt : Int) != (k0 : Int)) = true := by simp; omega
            have dn2 : ((cnt : Int) != S) = false := by simp; omega
            clear hS hcnt hle hck
            gi_wp2_with fail
            refine wpIn_region_quiet_below rfl (by kernel_rfl) (by kernel_rfl) ?_
            repeat (gi_big_quiet_step (fail))
            refine wpQuietIn_step (fun _ _ _ _ => trivial) (fun K hK => ?_)
            go_simp
            apply Exists.intro
            refine ⟨fun _ => ?_, hK _ ?_⟩
            · exact CallsIn.regrown_of (callsIn_wide.2 (HSz _ _))
            clear hK K
            repeat (gi_big_quiet_step (fail))
            refine wpQuietIn_step (fun _ _ _ _ => trivial) (fun K hK => ?_)
            go_simp
            apply Exists.intro
            refine ⟨fun _ => ?_, hK _ ?_⟩
            · exact CallsIn.regrown_of (callsIn_wide.2 (HSz _ _))
            clear hK K
            repeat (gi_big_quiet_step (fail))
            refine wpQuietIn_nil ?_
            intro W5b hw'
            have hb5 : Below W.heap.size W W5b := by
              obtain ⟨⟨dq, osq⟩, rfl⟩ := hw'
              exact below_regrown _ _ _
            clear hw' cL cS c9k HSz dgt dn
            have HVb := HU3.below hb5
            have hK5a := ((hb5.block Da (Nat.lt_of_lt_of_le hDla hB.size)).trans ((hB.block Da hDla).trans hK5a))
            have hK5b : W5b.heap[Db]? = some (.deferred (some [])) := (hb5.block Db (Array.getElem?_eq_some_iff.1 hK).1).trans hK
            have hD0b : w.heap.size ≤ Db := by
              have h1 := hBtb.size
              have h2 := HVa.bel.size
              omega
            have hDlb : Db < W5b.heap.size := (Array.getElem?_eq_some_iff.1 hK5b).1
            have hsVb : z2 + 1 + 1 < W5b.heap.size := HVb.res.lt
            clear hb5 hK HU3 c9 hB
            gi_wp2_with fail
            rw [roundsIn_succ]
            gi_wp2_with fail
            refine ⟨trivial, (callsIn_wide.2 (known_any _ HVb.gl)).mono ?_⟩
            rintro e w9 ⟨rfl, hb9⟩
            have HX := HVb.below hb9
            have k4 := HX.res.cell
            have f4 := HX.res.frozen
            gi_wp2_with fail
            have q4 := HX.res.set (.bool true)
            have KO := KeepsOthers.setCell w9 ⟨z2 + 1 + 1, 0, none⟩ (.bool true)
            have d9a := KO.same Da _ ((hb9.block Da (Array.getElem?_eq_some_iff.1 hK5a).1).trans hK5a) rfl
            have d9b := KO.same Db _ ((hb9.block Db hDlb).trans hK5b) rfl
            have BX : Below w.heap.size w (w9.setCell ⟨z2 + 1 + 1, 0, none⟩ (.bool true)) := HX.bel.setCell (p := ⟨z2 + 1 + 1, 0, none⟩) (show w.heap.size ≤ z2 + 1 + 1 by rw [HZ2.out]; omega) _
            obtain ⟨WX, hWX⟩ : ∃ WX, WX = w9.setCell ⟨z2 + 1 + 1, 0, none⟩ (.bool true) := ⟨_, rfl⟩
            rw [← hWX] at q4 d9a d9b BX ⊢
            clear hWX KO
            have hne : Da ≠ Db := by
              have := hBtb.size
              omega
            have e1 : (WX.putObj Db (.deferred none)).heap[Da]? = some (.deferred (some [])) := (World.putObj_heap_other hne).trans d9a
            have c1 := cell_kept q4.cell (grownBy_putObj' WX Db (.deferred none)) (fun r e => by cases e; exact ⟨_, d9b, rfl⟩)
            have c2 := cell_kept c1 (grownBy_putObj' (WX.putObj Db (.deferred none)) Da (.deferred none)) (fun r e => by cases e; exact ⟨_, e1, rfl⟩)
            have sDa : w.heap.size ≤ Da := hD0a
            have sDb : w.heap.size ≤ Db := by
              have := hBtb.size
              have := HVa.bel.size
              omega
            have Ba := BX.trans (belowK_b (w := w) (Nat.le_refl _) WX Db _ (.deferred none) sDb d9b rfl rfl)
            have Bb := Ba.trans (belowK_b (w := w) (Nat.le_refl _) _ Da _ (.deferred none) sDa e1 rfl rfl)
            refine ⟨by simp, .inl ⟨Db, _, rfl, run_takeDeferred d9b, ?_⟩⟩
            refine ⟨by simp, .inl ⟨Da, _, rfl, run_takeDeferred e1, ?_⟩⟩
            exact ⟨.bool true, by simp [results, Tryd.results6, go_sem, c2], rfl, Bb⟩
      · have dn : ((cnt : Int) != (k0 : Int)) = true := by simp; omega
        have dn2 : ((cnt : Int) != S) = false := by simp; omega
        clear hS hcnt hle hck
        gi_wp2_with fail
        refine wpIn_region_quiet_below rfl (by kernel_rfl) (by kernel_rfl) ?_
        repeat (gi_big_quiet_step (fail))
        refine wpQuietIn_step (fun _ _ _ _ => trivial) (fun K hK => ?_)
        go_simp
        apply Exists.intro
        refine ⟨fun _ => ?_, hK _ ?_⟩
        · exact CallsIn.regrown_of (callsIn_wide.2 (HSz _ _))
        clear hK K
        repeat (gi_big_quiet_step (fail))
        refine wpQuietIn_step (fun _ _ _ _ => trivial) (fun K hK => ?_)
        go_simp
        apply Exists.intro
        refine ⟨fun _ => ?_, hK _ ?_⟩
        · exact CallsIn.regrown_of (callsIn_wide.2 (HSz _ _))
        clear hK K
        repeat (gi_big_quiet_step (fail))
        refine wpQuietIn_nil ?_
        intro W5a hw'
        have hb5 : Below W.heap.size W W5a := by
          obtain ⟨⟨dq, osq⟩, rfl⟩ := hw'
          exact below_regrown _ _ _
        clear hw' cL cS c9k HSz dgt dn
        have HVa := HU3.below hb5
        skip
        have hK5a : W5a.heap[Da]? = some (.deferred (some [])) := (hb5.block Da (Array.getElem?_eq_some_iff.1 hK).1).trans hK
        have hD0a : w.heap.size ≤ Da := by
          have h1 := hBta.size
          have h2 := HT.bel.size
          omega
        have hDla : Da < W5a.heap.size := (Array.getElem?_eq_some_iff.1 hK5a).1
        have hsVa : z2 + 1 + 1 < W5a.heap.size := HVa.res.lt
        clear hb5 hK HU3 c9 hB
        gi_wp2_with fail
        rw [roundsIn_succ]
        gi_wp2_with fail
        have hBtb : Below W5a.heap.size W5a ((W5a.alloc (.cells #[.int .i64 0] 3)).alloc (.cells #[.int .i32 (-1)] 21)) := ((Below.refl _ W5a).alloc (Nat.le_refl _) _).alloc (by simp) _
        have HUb := HVa.below hBtb
        have b9 := (Boxed.new W5a 3 (.int .i64 0)).alloc (.cells #[.int .i32 (-1)] 21)
        have b10 := Boxed.new (W5a.alloc (.cells #[.int .i64 0] 3)) 21 (.int .i32 (-1))
        simp only [World.size_alloc] at b10
        obtain ⟨B9b, hB9⟩ : ∃ B, B = W5a.heap.size := ⟨_, rfl⟩
        have H9b : Hid (B9b = W5a.heap.size) := hB9
        have hz9b : z2 + 1 + 1 < B9b ∧ 2 ≤ B9b := by rw [hB9]; omega
        obtain ⟨V0b, hV0⟩ : ∃ V0b, V0b = (W5a.alloc (.cells #[.int .i64 0] 3)).alloc (.cells #[.int .i32 (-1)] 21) := ⟨_, rfl⟩
        rw [← hV0] at hBtb HUb b9 b10 ⊢
        rw [← hB9] at b9 b10 ⊢
        clear hV0 hB9
        refine mono_named (fun Db e W => (e = .normal ∨ e = .exit 2) ∧ ∃ cnt : Nat, Boxed W B9b 3 (.int .i64 (cnt : Nat)) ∧ (cnt = (runesL l).length ∨ cnt = k0) ∧ cnt ≤ (runesL l).length ∧ Below W5a.heap.size W5a W ∧ V0b.heap.size ≤ Db ∧ W.heap[Db]? = some (.deferred (some []))) ?range ?after
        case range =>
          refine range_act rfl h1 (gf := 26) (lb := #[.pointer (some ⟨Bs, 0, none⟩)]) rfl trivial (enters_of Tryd.func26 (by kernel_rfl) rfl)
            (all_stops 2 (by omega) Bs a' cap' l (by omega) hRg V0b HUb.own HUb.row HUb.gl) KpS.trans (KpS.putObj HUb.gl.two) (Below.refl _ _)
            (fun pre W => (Boxed W B9b 3 (.int .i64 (pre.length : Nat)) ∧ Boxed W (B9b + 1) 21 (.int .i32 (lastR pre))) ∧ pre.length < k0 ∧ Below W5a.heap.size W5a W)
            (fun c pre W => (pre <+: runesL l → c = .exit 2 ∧ pre.length = k0) ∧ (pre <+: runesL l → Boxed W B9b 3 (.int .i64 (pre.length : Nat))) ∧ (pre <+: runesL l → Below W5a.heap.size W5a W))
            ?own ?ownx ⟨⟨b9, b10⟩, by simp; omega, hBtb⟩
            ?assign ?body ?done ?stop
          case own => exact OwnFrom.and (OwnFrom.and (Own.from (boxed_own _ _ (fun pre : List Int => .int .i64 (pre.length : Nat))) _) (Own.from (boxed_own _ _ (fun pre : List Int => .int .i32 (lastR pre))) _)) (OwnFrom.and (ownFrom_pure _ (fun pre : List Int => pre.length < k0)) (ownFrom_below (Nat.le_refl _) hBtb.size))
          case ownx => exact fun c => OwnFrom.and (ownFrom_pure _ (fun pre : List Int => pre <+: runesL l → c = .exit 2 ∧ pre.length = k0)) (OwnFrom.and (Own.from (show Go.Own (fun (pre : List Int) W => pre <+: runesL l → Boxed W B9b 3 (.int .i64 (pre.length : Nat))) from fun pre A B row hs hg hr hp => boxed_own B9b 3 (fun pre : List Int => .int .i64 (pre.length : Nat)) pre A B row (hs hp) hg hr) _) (fun pre A B row hs hg hr hp => ownFrom_below (β := Unit) (Nat.le_refl _) hBtb.size () A B row (hs hp) hg hr))
          case assign =>
            rintro lp pre r W K hI hK
            gi_wp2
            exact hK _ _ ((keepsOthers_refl W).from _) (KpS.refl W) hI rfl
          case body =>
            rintro lp pre r W hl ⟨rr, hrr⟩ ⟨⟨c9, c10⟩, hlk, hB⟩ hlt
            simp only [actOf, List.setIfInBounds_toArray, List.set_cons_succ, List.set_cons_zero]
            have HU2 := HVa.below hB
            have cL := HU2.list.cell
            have cS := HU2.stop.cell
            have k10 := c10.cell
            have k4 := HU2.res.cell
            have f4 := HU2.res.frozen
            by_cases hrl : r ≤ lastR pre
            · have dl : decide (r ≤ lastR pre) = true := decide_eq_true hrl
              gi_wp2_with (refine ⟨(show Fence.wide.fn 11 from trivial), ?_⟩)
              refine ⟨(KeepsOthers.setCell W ⟨z2 + 1 + 1, 0, none⟩ (.bool false)).from _, ?_⟩
              have hno : ¬ (pre ++ [r]) <+: runesL l := fun h => by have := lastR_lt hRg h; omega
              exact ⟨fun h => absurd h hno, fun h => absurd h hno, fun h => absurd h hno⟩
            · have dl : decide (r ≤ lastR pre) = false := decide_eq_false hrl
              have HIn := in_any a cap l r W hlc hcap HU2.sps hRg HU2.gl
              cases hin : inB l r with
              | false =>
                rw [hin] at HIn
                gi_wp2_with fail
                refine ⟨trivial, (CallsIn.inRound lp (callsIn_wide.2 HIn)).mono ?_⟩
                rintro e w5 ⟨rfl, hb5⟩
                have f4 := (boxed_below HU2.res hb5 HU2.res.lt).frozen
                have k4 := (boxed_below HU2.res hb5 HU2.res.lt).cell
                gi_wp2_with fail
                refine ⟨((keepsOthers_below hb5).trans (KeepsOthers.setCell _ ⟨z2 + 1 + 1, 0, none⟩ (.bool false))).from _, ?_⟩
                have hno : ¬ (pre ++ [r]) <+: runesL l := fun h => by
                  have := (runesL_mem (h.subset (by simp : r ∈ pre ++ [r]))).1
                  rw [hin] at this
                  cases this
                exact ⟨fun h => absurd h hno, fun h => absurd h hno, fun h => absurd h hno⟩
              | true =>
                rw [hin] at HIn
                gi_wp2_with fail
                refine ⟨trivial, (CallsIn.inRound lp (callsIn_wide.2 HIn)).mono ?_⟩
                rintro e w5 ⟨rfl, hb5⟩
                have c9' := boxed_below c9 hb5 c9.lt
                have c10' := boxed_below c10 hb5 c10.lt
                have hU5 := HU2.below hb5
                have B5 := hB.trans (hb5.mono hB.size)
                have k9 := c9'.cell
                have f9 := c9'.frozen
                have k10 := c10'.cell
                have f10 := c10'.frozen
                have k3 := hU5.stop.cell
                clear cL cS k4 f4 dl hin
                have hks : KeepsOthers W ((w5.setCell ⟨B9b + 1, 0, none⟩ (.int .i32 r)).setCell ⟨B9b, 0, none⟩ (.int .i64 ((pre.length : Int) + 1))) := ((keepsOthers_below hb5).trans (KeepsOthers.setCell _ _ _)).trans (KeepsOthers.setCell _ _ _)
                have e1 : ((pre ++ [r]).length : Int) = (pre.length : Int) + 1 := by simp
                have g9 : Boxed ((w5.setCell ⟨B9b + 1, 0, none⟩ (.int .i32 r)).setCell ⟨B9b, 0, none⟩ (.int .i64 ((pre.length : Int) + 1))) B9b 3 (.int .i64 ((pre ++ [r]).length : Nat)) := by rw [e1]; exact (c9'.other (by omega) _).set _
                have gB : Below W5a.heap.size W5a ((w5.setCell ⟨B9b + 1, 0, none⟩ (.int .i32 r)).setCell ⟨B9b, 0, none⟩ (.int .i64 ((pre.length : Int) + 1))) :=
                  (B5.setCell (p := ⟨B9b + 1, 0, none⟩) (show W5a.heap.size ≤ B9b + 1 by rw [H9b.out]; omega) _).setCell (p := ⟨B9b, 0, none⟩) (show W5a.heap.size ≤ B9b by rw [H9b.out]; exact Nat.le_refl _) _
                by_cases hkk : pre.length + 1 = k0
                · have dk : ((pre.length : Int) + 1 == (k0 : Int)) = true := by simp; omega
                  clear e1
                  gi_wp2_with fail
                  exact ⟨hks.from _, fun _ => ⟨rfl, by simp; omega⟩, fun _ => g9, fun _ => gB⟩
                · have dk : ((pre.length : Int) + 1 == (k0 : Int)) = false := by simp; omega
                  have g10 : Boxed ((w5.setCell ⟨B9b + 1, 0, none⟩ (.int .i32 r)).setCell ⟨B9b, 0, none⟩ (.int .i64 ((pre.length : Int) + 1))) (B9b + 1) 21 (.int .i32 (lastR (pre ++ [r]))) := by rw [lastR_snoc]; exact (c10'.set _).other (by omega) _
                  have gK : KpS W ((w5.setCell ⟨B9b + 1, 0, none⟩ (.int .i32 r)).setCell ⟨B9b, 0, none⟩ (.int .i64 ((pre.length : Int) + 1))) :=
                    (KpS.of_below hb5 HU2.gl.two).trans ((KpS.setBox _ c10' (by decide) (by decide) (by omega)).trans (KpS.setBox _ (c9'.other (B' := B9b + 1) (by omega) _) (by decide) (by decide) (by omega)))
                  clear e1
                  gi_wp2_with fail
                  exact ⟨hks.from _, gK, ⟨g9, g10⟩, by simp; omega, gB⟩
          case done =>
            rintro Db ys W hD rfl ⟨⟨c9, c10⟩, hlk, hB⟩ hK
            exact ⟨Db, rfl, .inl rfl, _, c9, .inl rfl, Nat.le_refl _, hB, hD, hK⟩
          case stop =>
            rintro Db c pre W hD hp ⟨hx1, hx2, hx3⟩ hK
            obtain ⟨rfl, hpk⟩ := hx1 hp
            have c9 := hx2 hp
            have hB := hx3 hp
            gi_wp2_with fail
            exact ⟨_, c9, .inr hpk, hp.length_le⟩
        case after =>
          rintro Db e W ⟨he, cnt, c9, hcnt, hle, hB, hD, hK⟩
          refine inBlock_both he ?_
          clear he
          have HU3 := HVa.below hB
          have cL := cell_regrown HU3.list.cell
          have cS := cell_regrown HU3.stop.cell
          have c9k := cell_regrown c9.cell
          have hSl := runesL_length hRg
          obtain ⟨S, hS⟩ : ∃ S, S = sizeA l := ⟨_, rfl⟩
          have HSz := fun (d : Nat) (os : Array Obj) => size_any a cap l (Go.Sort.grow (redrawn W d) os) (by omega) (HU3.sps.below (below_regrown W d os)) hRg (HU3.gl.below (below_regrown W d os))
          rw [← hS] at hSl HSz
          have dgt : decide (S < (cnt : Int)) = false := decide_eq_false (by omega)
          by_cases hck : cnt = k0
          · have dn : ((cnt : Int) != (k0 : Int)) = false := by simp; omega
            clear hS hcnt hle hck
            gi_wp2_with fail
            refine wpIn_region_quiet_below rfl (by kernel_rfl) (by kernel_rfl) ?_
            repeat (gi_big_quiet_step (fail))
            refine wpQuietIn_step (fun _ _ _ _ => trivial) (fun K hK => ?_)
            go_simp
            refine hK _ ?_
            clear hK K
            repeat (gi_big_quiet_step (fail))
            refine wpQuietIn_step (fun _ _ _ _ => trivial) (fun K hK => ?_)
            go_simp
            apply Exists.intro
            refine ⟨fun _ => ?_, hK _ ?_⟩
            · exact CallsIn.regrown_of (callsIn_wide.2 (HSz _ _))
            clear hK K
            repeat (gi_big_quiet_step (fail))
            refine wpQuietIn_nil ?_
            intro W5b hw'
            have hb5 : Below W.heap.size W W5b := by
              obtain ⟨⟨dq, osq⟩, rfl⟩ := hw'
              exact below_regrown _ _ _
            clear hw' cL cS c9k HSz dgt dn
            have HVb := HU3.below hb5
            have hK5a := ((hb5.block Da (Nat.lt_of_lt_of_le hDla hB.size)).trans ((hB.block Da hDla).trans hK5a))
            have hK5b : W5b.heap[Db]? = some (.deferred (some [])) := (hb5.block Db (Array.getElem?_eq_some_iff.1 hK).1).trans hK
            have hD0b : w.heap.size ≤ Db := by
              have h1 := hBtb.size
              have h2 := HVa.bel.size
              omega
            have hDlb : Db < W5b.heap.size := (Array.getElem?_eq_some_iff.1 hK5b).1
            have hsVb : z2 + 1 + 1 < W5b.heap.size := HVb.res.lt
            clear hb5 hK HU3 c9 hB
            gi_wp2_with fail
            rw [roundsIn_succ]
            gi_wp2_with fail
            refine ⟨trivial, (callsIn_wide.2 (known_any _ HVb.gl)).mono ?_⟩
            rintro e w9 ⟨rfl, hb9⟩
            have HX := HVb.below hb9
            have k4 := HX.res.cell
            have f4 := HX.res.frozen
            gi_wp2_with fail
            have q4 := HX.res.set (.bool true)
            have KO := KeepsOthers.setCell w9 ⟨z2 + 1 + 1, 0, none⟩ (.bool true)
            have d9a := KO.same Da _ ((hb9.block Da (Array.getElem?_eq_some_iff.1 hK5a).1).trans hK5a) rfl
            have d9b := KO.same Db _ ((hb9.block Db hDlb).trans hK5b) rfl
            have BX : Below w.heap.size w (w9.setCell ⟨z2 + 1 + 1, 0, none⟩ (.bool true)) := HX.bel.setCell (p := ⟨z2 + 1 + 1, 0, none⟩) (show w.heap.size ≤ z2 + 1 + 1 by rw [HZ2.out]; omega) _
            obtain ⟨WX, hWX⟩ : ∃ WX, WX = w9.setCell ⟨z2 + 1 + 1, 0, none⟩ (.bool true) := ⟨_, rfl⟩
            rw [← hWX] at q4 d9a d9b BX ⊢
            clear hWX KO
            have hne : Da ≠ Db := by
              have := hBtb.size
              omega
            have e1 : (WX.putObj Db (.deferred none)).heap[Da]? = some (.deferred (some [])) := (World.putObj_heap_other hne).trans d9a
            have c1 := cell_kept q4.cell (grownBy_putObj' WX Db (.deferred none)) (fun r e => by cases e; exact ⟨_, d9b, rfl⟩)
            have c2 := cell_kept c1 (grownBy_putObj' (WX.putObj Db (.deferred none)) Da (.deferred none)) (fun r e => by cases e; exact ⟨_, e1, rfl⟩)
            have sDa : w.heap.size ≤ Da := hD0a
            have sDb : w.heap.size ≤ Db := by
              have := hBtb.size
              have := HVa.bel.size
              omega
            have Ba := BX.trans (belowK_b (w := w) (Nat.le_refl _) WX Db _ (.deferred none) sDb d9b rfl rfl)
            have Bb := Ba.trans (belowK_b (w := w) (Nat.le_refl _) _ Da _ (.deferred none) sDa e1 rfl rfl)
            refine ⟨by simp, .inl ⟨Db, _, rfl, run_takeDeferred d9b, ?_⟩⟩
            refine ⟨by simp, .inl ⟨Da, _, rfl, run_takeDeferred e1, ?_⟩⟩
            exact ⟨.bool true, by simp [results, Tryd.results6, go_sem, c2], rfl, Bb⟩
          · have dn : ((cnt : Int) != (k0 : Int)) = true := by simp; omega
            have dn2 : ((cnt : Int) != S) = false := by simp; omega
            clear hS hcnt hle hck
            gi_wp2_with fail
            refine wpIn_region_quiet_below rfl (by kernel_rfl) (by kernel_rfl) ?_
            repeat (gi_big_quiet_step (fail))
            refine wpQuietIn_step (fun _ _ _ _ => trivial) (fun K hK => ?_)
            go_simp
            apply Exists.intro
            refine ⟨fun _ => ?_, hK _ ?_⟩
            · exact CallsIn.regrown_of (callsIn_wide.2 (HSz _ _))
            clear hK K
            repeat (gi_big_quiet_step (fail))
            refine wpQuietIn_step (fun _ _ _ _ => trivial) (fun K hK => ?_)
            go_simp
            apply Exists.intro
            refine ⟨fun _ => ?_, hK _ ?_⟩
            · exact CallsIn.regrown_of (callsIn_wide.2 (HSz _ _))
            clear hK K
            repeat (gi_big_quiet_step (fail))
            refine wpQuietIn_nil ?_
            intro W5b hw'
            have hb5 : Below W.heap.size W W5b := by
              obtain ⟨⟨dq, osq⟩, rfl⟩ := hw'
              exact below_regrown _ _ _
            clear hw' cL cS c9k HSz dgt dn
            have HVb := HU3.below hb5
            have hK5a := ((hb5.block Da (Nat.lt_of_lt_of_le hDla hB.size)).trans ((hB.block Da hDla).trans hK5a))
            have hK5b : W5b.heap[Db]? = some (.deferred (some [])) := (hb5.block Db (Array.getElem?_eq_some_iff.1 hK).1).trans hK
            have hD0b : w.heap.size ≤ Db := by
              have h1 := hBtb.size
              have h2 := HVa.bel.size
              omega
            have hDlb : Db < W5b.heap.size := (Array.getElem?_eq_some_iff.1 hK5b).1
            have hsVb : z2 + 1 + 1 < W5b.heap.size := HVb.res.lt
            clear hb5 hK HU3 c9 hB
            gi_wp2_with fail
            rw [roundsIn_succ]
            gi_wp2_with fail
            refine ⟨trivial, (callsIn_wide.2 (known_any _ HVb.gl)).mono ?_⟩
            rintro e w9 ⟨rfl, hb9⟩
            have HX := HVb.below hb9
            have k4 := HX.res.cell
            have f4 := HX.res.frozen
            gi_wp2_with fail
            have q4 := HX.res.set (.bool true)
            have KO := KeepsOthers.setCell w9 ⟨z2 + 1 + 1, 0, none⟩ (.bool true)
            have d9a := KO.same Da _ ((hb9.block Da (Array.getElem?_eq_some_iff.1 hK5a).1).trans hK5a) rfl
            have d9b := KO.same Db _ ((hb9.block Db hDlb).trans hK5b) rfl
            have BX : Below w.heap.size w (w9.setCell ⟨z2 + 1 + 1, 0, none⟩ (.bool true)) := HX.bel.setCell (p := ⟨z2 + 1 + 1, 0, none⟩) (show w.heap.size ≤ z2 + 1 + 1 by rw [HZ2.out]; omega) _
            obtain ⟨WX, hWX⟩ : ∃ WX, WX = w9.setCell ⟨z2 + 1 + 1, 0, none⟩ (.bool true) := ⟨_, rfl⟩
            rw [← hWX] at q4 d9a d9b BX ⊢
            clear hWX KO
            have hne : Da ≠ Db := by
              have := hBtb.size
              omega
            have e1 : (WX.putObj Db (.deferred none)).heap[Da]? = some (.deferred (some [])) := (World.putObj_heap_other hne).trans d9a
            have c1 := cell_kept q4.cell (grownBy_putObj' WX Db (.deferred none)) (fun r e => by cases e; exact ⟨_, d9b, rfl⟩)
            have c2 := cell_kept c1 (grownBy_putObj' (WX.putObj Db (.deferred none)) Da (.deferred none)) (fun r e => by cases e; exact ⟨_, e1, rfl⟩)
            have sDa : w.heap.size ≤ Da := hD0a
            have sDb : w.heap.size ≤ Db := by
              have := hBtb.size
              have := HVa.bel.size
              omega
            have Ba := BX.trans (belowK_b (w := w) (Nat.le_refl _) WX Db _ (.deferred none) sDb d9b rfl rfl)
            have Bb := Ba.trans (belowK_b (w := w) (Nat.le_refl _) _ Da _ (.deferred none) sDa e1 rfl rfl)
            refine ⟨by simp, .inl ⟨Db, _, rfl, run_takeDeferred d9b, ?_⟩⟩
            refine ⟨by simp, .inl ⟨Da, _, rfl, run_takeDeferred e1, ?_⟩⟩
            exact ⟨.bool true, by simp [results, Tryd.results6, go_sem, c2], rfl, Bb⟩
  · have h0 : ((ea : Int) != 0) = true := by simp; omega
    clear ra HA HW hnf
    have cF := bF1.cell
    gi_wp2_with fail
    refine ⟨trivial, (callsIn_wide.2 (known_any _ hG1)).mono ?_⟩
    rintro e w2 ⟨rfl, hb2⟩
    have bF2 := boxed_below bF1 hb2 bF1.lt
    have cF := bF2.cell
    have fF := bF2.frozen
    gi_wp2_with fail
    have cF := (bF2.set (.bool true)).cell
    exact ⟨.bool true, by simp [results, Tryd.results6, go_sem, cF], rfl, (B1.trans (hb2.mono B1.size)).setCell (p := ⟨w.heap.size + 1 + 1, 0, none⟩) (show w.heap.size ≤ w.heap.size + 1 + 1 by omega) _⟩
end Go.Proofs.YtaenmgikpkkflaaDoor
