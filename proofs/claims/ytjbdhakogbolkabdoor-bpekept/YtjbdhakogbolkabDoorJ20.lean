import Derived.Test.YtjbdhakogbolkabDoorJ18
import Derived.Test.YtjbdhakogbolkabDoorJ19
import Derived.Test.YtjbdhakogbolkabDoorJ0
import Derived.ProofKit
import Derived.LaidMore
import Derived.OpenShut
import Derived.Stop.Joined
import Derived.Deep.SlicePairs
import Derived.SizedLaws
import Derived.Test.YtjbdhakogbolkabDoorJ3
import Derived.Lib.SmallJoins
import Derived.Deep.Strs
section
/- BpeEnds: its walk. -/
namespace Go.Proofs.YtjbdhakogbolkabDoor
open Go.RowKit Go.Joins Go.Sort
set_option linter.unusedVariables false
set_option linter.unusedSimpArgs false
set_option maxRecDepth 100000
theorem sz_list (b : ByteArray) : b.data.toList.length = b.size := Array.length_toList
theorem byte_known (ws : List ByteArray) (x : Int) (h : 0 ≤ x ∧ x < 256) : wordM ws x = some (byteS x) := by unfold wordM; rw [if_pos h]
theorem byL_known (ws : List ByteArray) (s : ByteArray) : KnJ ws (byL s) := fun x hx => by
  unfold byL at hx
  obtain ⟨c, _, rfl⟩ := List.mem_map.1 hx
  have := c.toNat_lt
  exact ⟨_, byte_known ws _ (by omega)⟩
theorem byL_text (ws : List ByteArray) (s : ByteArray) : txJ ws (byL s) = s.data.toList := by
  unfold txJ byL
  rw [List.flatMap_map]
  have h : ∀ l : List UInt8, l.flatMap (fun c => ((wordM ws (c.toNat : Int)).getD ⟨#[]⟩).data.toList) = l := by
    intro l
    induction l with
    | nil => rfl
    | cons c l ih =>
      rw [List.flatMap_cons, ih, byte_known ws _ (by have := c.toNat_lt; omega)]
      have : (byteS (c.toNat : Int)).data.toList = [c] := by
        unfold byteS
        simp
      simp [this]
  exact h _
theorem KnJ.w64 {ws : List ByteArray} {l : List Int} (h : KnJ ws l) (hn : ws.length ≤ 9223372036854775000) : ∀ x ∈ l, W64 x := fun x hx => by
  obtain ⟨w, hw⟩ := h x hx
  unfold wordM at hw
  unfold W64
  by_cases h0 : 0 ≤ x ∧ x < 256
  · omega
  · rw [if_neg h0] at hw
    by_cases h1 : 256 ≤ x
    · rw [if_pos h1] at hw
      have := (List.getElem?_eq_some_iff.1 hw).1
      omega
    · rw [if_neg h1] at hw; cases hw
theorem txJ_take (ws : List ByteArray) (l : List Int) (k : Nat) (x : Int) (hx : l[k]? = some x) : txJ ws (l.take (k + 1)) = txJ ws (l.take k) ++ ((wordM ws x).getD ⟨#[]⟩).data.toList := by
  rw [List.take_add_one, hx, txJ_append]
  simp [txJ]
theorem txJ_le (ws : List ByteArray) (l : List Int) (k : Nat) : (txJ ws (l.take k)).length ≤ (txJ ws l).length := by
  conv => rhs; rw [← List.take_append_drop k l, txJ_append, List.length_append]
  omega
end Go.Proofs.YtjbdhakogbolkabDoor
end
section
/- BpeKept's walk. -/
namespace Go.Proofs.YtjbdhakogbolkabDoor
open Go.RowKit Go.Joins Go.Sort
set_option linter.unusedVariables false
set_option linter.unusedSimpArgs false
set_option maxRecDepth 100000
theorem RowN.ov {w : World} {base : Nat} {v : Value} {l : List Int} (h : RowN w base v l) : BKI.OV w base v l := BKI.OV.of_owns h
/-- A book of n lists at the most, whose blocks lie under s. -/
def BoI (w : World) (B BB n s : Nat) : Prop := ∃ vl vw es held, (n = 0 ∨ 0 < es.length) ∧ es.length ≤ n ∧ BKI.BookInv w B BB vl vw es held ∧ BKI.Bnd es s
theorem BoI.keep {w : World} {B BB n s s' : Nat} {v : Value} {l : List Int} (h : BoI w B BB n s) (hBB : B ≤ BB) (hn : n ≤ 200) (hv : BKI.OV w s v l) (hw : B ≤ w.heap.size) (hs : B ≤ s) (hss : s ≤ s') (hl : l.length ≤ 1000000) (hu : ∀ g, ob v = some g → g < s') :
    Calls Tryd.prog 9 #[.pointer (some ⟨BB, 0, none⟩), v] w fun e w' => e = .returned (.tuple #[]) ∧ BoI w' B BB (n + 1) s' ∧ Only w w' (BKI.Wk w B) := by
  obtain ⟨vl, vw, es, held, h1, h2, h3, h4⟩ := h
  obtain ⟨a, c, rfl⟩ := hv.shape
  refine (BKI.keep_any w B BB vl vw es held a c l h3 (hv.le hs) hw (by omega) (by omega) (h4.fresh hv)).mono ?_
  rintro e w' ⟨rfl, hp⟩
  obtain ⟨vl', vw', es', held', g1, g2, g3, g4, g5⟩ := hp.use h3 hBB h4 hss hu
  exact ⟨rfl, ⟨vl', vw', es', held', .inr g1, by omega, g3, g4⟩, g5⟩
theorem BoI.below {w w1 : World} {B BB n s : Nat} (h : BoI w B BB n s) (hBB : B ≤ BB) (hb : Below w.heap.size w w1) : BoI w1 B BB n s := by
  obtain ⟨vl, vw, es, held, h1, h2, h3, h4⟩ := h
  exact ⟨vl, vw, es, held, h1, h2, h3.over hBB (Only.ofBelow (S := fun _ => False) hb) (fun _ h => h.elim), h4⟩
theorem BoI.up {w : World} {B BB n s s' : Nat} (h : BoI w B BB n s) (hs : s ≤ s') : BoI w B BB n s' := by
  obtain ⟨vl, vw, es, held, h1, h2, h3, h4⟩ := h
  exact ⟨vl, vw, es, held, h1, h2, h3, h4.mono hs⟩
theorem BoI.apart {w : World} {B BB n s : Nat} (h : BoI w B BB n s) (hBB : B ≤ BB) (hn : n ≤ 1000) (h0 : 0 < n) :
    Calls Tryd.prog 10 #[.pointer (some ⟨BB, 0, none⟩), .func (.func 11) #[] #[]] w fun e w' => e = .returned (.bool true) ∧ Only w w' (BKI.Wr w B) := by
  obtain ⟨vl, vw, es, held, h1, h2, h3, h4⟩ := h
  exact BKI.apart_any w B BB vl vw es held h3 (by omega) (by omega) hBB
theorem ov_lt {w : World} {base : Nat} {v : Value} {l : List Int} (h : BKI.OV w base v l) : ∀ g, ob v = some g → g < w.heap.size := fun g hg => by
  obtain ⟨_, cur, hc⟩ := h.block hg
  exact (Array.getElem?_eq_some_iff.1 hc).1
set_option maxHeartbeats 4000000 in
theorem bkept_walk (aw am a b c : Option Addr) (cw cm ca cb cc : Nat) (ws : List ByteArray) (ms : List Mg) (A B C : List Sp) (s0 : ByteArray) (w : World) (hwf : MWf ms) (hn : ws.length ≤ 8796093022208 ∧ ms.length ≤ 5864062014805 ∧ A.length ≤ 17592186044416 ∧ B.length ≤ 17592186044416 ∧ C.length ≤ 17592186044416) (hW : WSP w aw ws) (hM : MSP w am ms) (hA : Lst w a ca A) (hB : Lst w b cb B) (hC : Lst w c cc C) (hG : GL w) :
    Calls Tryd.prog 3 #[.agg #[.slice aw ws.length cw, .slice am ms.length cm, .slice a A.length ca, .slice b B.length cb, .slice c C.length cc], .string s0] w fun e w' => e = .returned (.bool true) ∧ Below w.heap.size w w' := by
  have hD := DBox.new w (.slice aw ws.length cw) (.slice am ms.length cm) (.slice a A.length ca) (.slice b B.length cb) (.slice c C.length cc)
  have hb0 := box_below w (.cells #[.slice aw ws.length cw, .slice am ms.length cm, .slice a A.length ca, .slice b B.length cb, .slice c C.length cc] 26)
  have HW : Hid (WSP w aw ws) := hW
  have HM : Hid (MSP w am ms) := hM
  have HA : Hid (Lst w a ca A) := hA
  have HB : Hid (Lst w b cb B) := hB
  have HC : Hid (Lst w c cc C) := hC
  have HG : Hid (GL w) := hG
  have HMI := mergeM_W64 hwf
  clear hW hM hA hB hC hG
  have x0 := hD.c0
  have x1 := hD.c1
  have x2 := hD.c2
  have x3 := hD.c3
  have x4 := hD.c4
  go_enter Tryd.func3, Tryd.ntmps3
  go_wp2_with fail
  obtain ⟨Y, hY⟩ : ∃ Y, Y = w.alloc (.cells #[.slice aw ws.length cw, .slice am ms.length cm, .slice a A.length ca, .slice b B.length cb, .slice c C.length cc] 26) := ⟨_, rfl⟩
  rw [← hY] at hb0 ⊢
  clear hY x0 x1 x2 x3 x4 hD
  refine (keepOf_any aw am a b c cw cm ca cb cc ws ms A B C Y hwf (by omega) (HW.out.below hb0) (HM.out.below hb0) (HA.out.below hb0) (HB.out.below hb0) (HC.out.below hb0) (HG.out.below hb0)).mono ?_
  rintro e w1 ⟨p, rfl, hp1, hp2, hb1⟩
  have B1 := hb0.trans (hb1.mono hb0.size)
  have hG1 := HG.out.below B1
  clear HW HM HA HB HC HG
  cases hU : upB ws ms A B C with
  | false =>
    obtain rfl := hp2 hU
    clear hp1 hp2 hU hb1 hb0 HMI
    go_wp2_with fail
    refine (known10_any w1 hG1).mono ?_
    rintro e w9 ⟨rfl, hb9⟩
    go_wp2_with fail
    go_ret
    exact ⟨rfl, B1.trans (hb9.mono B1.size)⟩
  | true =>
    obtain ⟨g, rfl, hMd⟩ := hp1 hU
    have hk := upB_ok hU
    have HK : Hid (MOk ws ms A B C) := hk
    clear hp1 hp2 hU hb1 hb0 hk
    obtain ⟨s, hs⟩ : ∃ s, s = fewF s0 300 := ⟨_, rfl⟩
    have hsz : s.size ≤ 300 := by rw [hs]; exact fewF_size _ _
    have HF := few10_any s0 300 w1
    rw [← hs] at HF
    rw [show ((300 : Nat) : Int) = 300 from rfl] at HF
    clear hs
    have HMD : Hid (ModelAt w1 _ g ws ms A B C) := hMd
    have HMI' : Hid (∀ l r k i, mergeM ms l r = some (k, i) → W64 i) := HMI
    have HG1 : Hid (GL w1) := hG1
    have HB1 : Hid (Below w.heap.size w w1) := B1
    clear hMd hG1 B1 HMI
    go_wp2_with fail
    refine HF.mono ?_
    rintro e w2 ⟨rfl, he⟩
    obtain rfl := he.symm
    clear HF
    go_upto_region 6 with fail
    have hI := BKI.book_new w1 (base := w1.heap.size)
    obtain ⟨N, hN⟩ : ∃ N, N = w1.heap.size := ⟨_, rfl⟩
    have HN : Hid (N = w1.heap.size) := hN
    obtain ⟨wk, hwk⟩ : ∃ wk, wk = w1.alloc (.cells #[.slice none 0 0, .slice none 0 0, .int .i64 0, .bool false] 34) := ⟨_, rfl⟩
    have hbk : Below N w1 wk := by rw [hwk, hN]; exact (Below.refl _ _).alloc (Nat.le_refl _) _
    rw [← hN, ← hwk] at hI
    rw [← hN, ← hwk]
    have hBo : BoI wk N N 0 wk.heap.size := ⟨_, _, _, _, .inl rfl, Nat.le_refl _, hI, fun e he => by simp at he⟩
    clear hI hwk hN
    go_wp2_with fail
    go_loopw [9] (fun v wr => ∃ j : Nat, j ≤ 2 ∧ v = .int .i64 (j : Nat) ∧ BoI wr N N (2 * j) wr.heap.size ∧ Below N w1 wr) (fun v _ => 2 - (intOf v).toNat)
    case atStart => exact ⟨0, by omega, rfl, hBo, hbk⟩
    case round =>
      obtain ⟨j, hj, rfl, hB, hBr⟩ := hrel
      clear hBo hbk
      have HBo : Hid (BoI wr N N (2 * j) wr.heap.size) := hB
      have HBr : Hid (Below N w1 wr) := hBr
      have hNs : N ≤ wr.heap.size := by rw [HN.out]; exact hBr.size
      have HNS : Hid (N ≤ wr.heap.size) := hNs
      by_cases hlt : j < 2
      · have hMr := HMD.out.below (by rw [← HN.out]; exact hBr)
        have HMe := bmerge_any g _ s ws ms A B C wr (by omega) HMI'.out hMr
        clear hB hBr hNs hMr
        go_wp2_with fail
        refine HMe.mono ?_
        rintro e w3 ⟨v, l, st, rfl, hv3, hj3, hb3, hnb⟩
        have hll : l.length ≤ 300 := by
          have := hj3.len
          rw [byL_length] at this
          omega
        obtain ⟨hkn, htx⟩ := hj3.words HK.out (byL_known ws s)
        have hM3 := (HMD.out.below (by rw [← HN.out]; exact HBr.out)).below hb3
        have HV3 : Hid (RowN w3 wr.heap.size v l) := hv3
        have HB3 : Hid (Below wr.heap.size wr w3) := hb3
        obtain ⟨ia, ic, hvs, hi3⟩ := hv3.ins
        have HJ := bjoin_any g _ ia ic l ws ms A B C w3 (by omega) (by have := hn.1; omega) hi3 (hkn.w64 (by have := hn.1; omega)) HMI'.out hM3
        rw [← hvs] at HJ
        have hall : allK ws l = true := hkn.all
        clear HMe hv3 hj3 hb3 hnb hkn htx hM3 hvs hi3
        go_wp2_with fail
        refine HJ.mono ?_
        rintro e w4 ⟨-, h2, hb4⟩
        obtain ⟨v2, l2, st2, rfl, hv4, hj4⟩ := h2 hall
        have hl2 : l2.length ≤ 300 := by have := hj4.len; omega
        have HV4 : Hid (RowN w4 w3.heap.size v2 l2) := hv4
        have HO1 : Hid (BKI.OV w4 wr.heap.size v l) := by
          have h := HV3.out.ov
          exact h.kept fun k hk => hb4.block k (ov_lt h k hk)
        have HU1 : Hid (∀ k, ob v = some k → k < w3.heap.size) := ov_lt HV3.out.ov
        have HBo4 : Hid (BoI w4 N N (2 * j) wr.heap.size) := (HBo.out.below (Nat.le_refl _) HB3.out).below (Nat.le_refl _) hb4
        have HB4 : Hid (Below N w1 w4) := (HBr.out.trans (HB3.out.mono HNS.out)).trans (hb4.mono (Nat.le_trans HNS.out HB3.out.size))
        have HS34 : Hid (w3.heap.size ≤ w4.heap.size) := hb4.size
        have hk1 := HBo4.out.keep (Nat.le_refl _) (by omega) HO1.out (Nat.le_trans HNS.out (Nat.le_trans HB3.out.size hb4.size)) HNS.out HB3.out.size (by omega) HU1.out
        clear HJ h2 hb4 hv4 hj4 hall HBo HBo4 HO1 HU1 HV3
        go_wp2_with fail
        refine hk1.mono ?_
        rintro e w5 ⟨rfl, hB5, ho5⟩
        have HO2 : BKI.OV w5 w3.heap.size v2 l2 := by
          have h := HV4.out.ov
          refine h.kept fun k hk => ho5.block k (ov_lt h k hk) (fun hw => ?_)
          obtain ⟨hk1, cur, hc⟩ := h.block hk
          have ht : TyB w4 3 k := ⟨cur, hc⟩
          rcases hw.2 with h | h
          · exact TyB.ne ht h (by decide) rfl
          · exact TyB.ne ht h (by decide) rfl
        have HB5 : Hid (Below N w1 w5) := HB4.out.trans (ho5.below (fun i hi => hi.1) (Nat.le_trans HNS.out (Nat.le_trans HB3.out.size HS34.out)))
        have hk2 := hB5.keep (s' := w5.heap.size) (Nat.le_refl _) (by omega) HO2 (by rw [HN.out]; exact HB5.out.size) (Nat.le_trans HNS.out HB3.out.size) (Nat.le_trans HS34.out ho5.size) (by omega) (ov_lt HO2)
        have HS5 : Hid (N ≤ w5.heap.size) := by rw [HN.out]; exact HB5.out.size
        clear hk1 hB5 ho5 HO2 HV4 HB4
        go_wp2_with fail
        refine hk2.mono ?_
        rintro e w6 ⟨rfl, hB6, ho6⟩
        have HB6 : Hid (Below N w1 w6) := HB5.out.trans (ho6.below (fun i hi => hi.1) HS5.out)
        have HBo6 : Hid (BoI w6 N N (2 * j + 1 + 1) w6.heap.size) := hB6.up ho6.size
        clear hk2 hB6 ho6
        go_wp2_with fail
        go_roundw
        case rel => exact ⟨j + 1, by omega, by go_num, HBo6.out, HB6.out⟩
        case measure => simp only [intOf]; omega
      · obtain rfl : j = 2 := by omega
        have hap := HBo.out.apart (Nat.le_refl _) (by omega) (by omega)
        clear hB hBr hNs
        go_wp2_with fail
        refine hap.mono ?_
        rintro e w7 ⟨rfl, ho7⟩
        have HB7 : Hid (Below N w1 w7) := HBr.out.trans (ho7.below (fun i hi => hi.1) HNS.out)
        have HW7 : Hid (Below w.heap.size w w7) := HB1.out.trans (HB7.out.mono (by rw [HN.out]; exact HB1.out.size))
        clear hap ho7
        go_wp2_with fail
        refine (known10_any w7 (HG1.out.below (by rw [← HN.out]; exact HB7.out))).mono ?_
        rintro e w8 ⟨rfl, hb8⟩
        go_wp2_with fail
        go_ret
        exact ⟨rfl, HW7.out.trans (hb8.mono HW7.out.size)⟩
end Go.Proofs.YtjbdhakogbolkabDoor
end
section
/- What the listed package-level variables hold, off the row's condition. -/
namespace Go.Proofs.YtjbdhakogbolkabDoor
open Go.ChangeShapes Go.WideShapes Go.ChangeAt Go.WideMaps Go.WideElems Go.RowKit
theorem own : ownKnob Tryd.prog.godebug = none := by kernel_rfl
theorem laidOut : laidOutB Tryd.prog = true := by kernel_rfl
theorem gRunes : Tryd.prog.globalNamed "tessera/spans.runes" = some 1 := by kernel_rfl
theorem gNothing : Tryd.prog.globalNamed "tessera/spans.nothing" = some 0 := by kernel_rfl
theorem tRunes : (Tryd.prog.globals[1]?).map (·.type) = some 153 := by kernel_rfl
theorem tNothing : (Tryd.prog.globals[0]?).map (·.type) = some 81 := by kernel_rfl
/-- The condition's list. -/
abbrev laids : List (String × DataW Unit) := [("tessera/spans.runes", Rows.laid_tessera_spans_runes), ("tessera/spans.nothing", Rows.laid_tessera_spans_nothing)]
/-- The door's own heap meets the condition. -/
theorem door_met (os : Os) (args : Array Value) : laidMetH Tryd.prog laids ((World.doorLaid Tryd.prog 400 os).forCall (fun _ _ => 0) ⟨#[], args, []⟩).memory :=
  laidMetH_of_parts3 (fuel := 8) (laidMet_of_run' 8 (by kernel_rfl) (by kernel_rfl)) (by kernel_rfl) (by kernel_rfl)
theorem cells26 : Tryd.prog.cellsOf 81 = 2 := by kernel_rfl
theorem cellsOf21 : Tryd.prog.cellsOf 21 = 1 := by kernel_rfl
theorem und48 : Tryd.prog.underlying 153 = some (.array 2 81) := by kernel_rfl
set_option maxRecDepth 100000 in
/-- A span's two cells, off its datum. -/
theorem sp_trod {H : Type} {enc : TypeId × Value → H} {w : World} {base : Nat} {sp : Nat → Bool} {held : Bool} {fuel : Nat} {cs : List Value} {lo hi : Int} {p : List MemPlace}
    (h : DataW.trod enc Tryd.prog w base sp held fuel 81 cs = some (.agg [.lit (.int .i32 lo), .lit (.int .i32 hi)], p)) : cs = [.int .i32 lo, .int .i32 hi] := by
  obtain ⟨xs, n, rfl, hx, hl, hn, hel⟩ := DataW.trod_struct und26 h
  rw [cells26] at hl
  obtain ⟨c0, c1, rfl⟩ : ∃ c0 c1, cs = [c0, c1] := by
    match cs, hl with
    | [c0, c1], _ => exact ⟨c0, c1, rfl⟩
  have h0 := hel 0 fLo rfl
  have h1 := hel 1 fHi rfl
  simp only [Prod.mk.injEq, DataW.agg.injEq] at hx
  match xs, hn, hx, h0, h1 with
  | [x0, x1], _, hx, h0, h1 =>
    simp only [fLo, fHi, cellsOf21, List.drop_zero, List.take_succ_cons, List.take_zero, List.drop_succ_cons, List.getElem?_cons_zero, List.getElem?_cons_succ] at h0 h1
    obtain ⟨k0, e0, f0, _⟩ := DataW.trod_int Tryd.underlying21 h0
    obtain ⟨k1, e1, f1, _⟩ := DataW.trod_int Tryd.underlying21 h1
    subst f0; subst f1
    simp at hx e0 e1
    rw [e0, e1, ← hx.1.1, ← hx.1.2]
set_option maxRecDepth 100000 in
theorem of_laid {W : World} (h : laidMetH Tryd.prog laids W) : GL W := by
  rw [MakeChecks.laidMetH_plain _ _ _ (by kernel_rfl)] at h
  obtain ⟨ps, ⟨g0, t0, cs0, f0, p0, q0, hg0, ht0, hv0, hd0, ⟨g1, t1, cs1, f1, p1, q1, hg1, ht1, hv1, hd1, _, _⟩, _⟩, _, _⟩ := h
  obtain rfl := Option.some.inj (gRunes.symm.trans hg0)
  obtain rfl := Option.some.inj (gNothing.symm.trans hg1)
  obtain rfl := Option.some.inj (tRunes.symm.trans ht0)
  obtain rfl := Option.some.inj (tNothing.symm.trans ht1)
  have e1 := sp_trod hd1
  have c1 := World.var?_cell hg1 hv1
  obtain ⟨l1⟩ := cs1
  simp only at e1
  subst e1
  obtain ⟨xs, m1, rfl, hx1, hlen, hn3, hel⟩ := DataW.trod_array und48 hd0
  have h0 := hel 0 (by decide)
  have h1 := hel 1 (by decide)
  have c0 := World.var?_cell hg0 hv0
  obtain ⟨l0⟩ := cs0
  simp only [Prod.mk.injEq, DataW.agg.injEq, Rows.laid_tessera_spans_runes] at hx1
  simp only [cells26] at h0 h1
  match xs, hn3, hx1, h0, h1 with
  | [⟨d0, p0⟩, ⟨d1, p1⟩], _, hx1, h0, h1 =>
    simp only [List.map_cons, List.map_nil, List.cons.injEq, and_true] at hx1
    obtain ⟨⟨rfl, rfl⟩, -⟩ := hx1
    simp only [List.getElem?_cons_zero, List.getElem?_cons_succ, Nat.zero_mul, Nat.one_mul, List.drop_zero] at h0 h1
    have e2 := sp_trod h0
    have e3 := sp_trod h1
    rw [show Tryd.prog.cellsOf 153 = 4 by kernel_rfl] at hlen
    simp only at hlen
    match l0, hlen, e2, e3, c0 with
    | [v0, v1, v2, v3], _, e2, e3, c0 =>
      simp at e2 e3
      obtain ⟨rfl, rfl⟩ := e2
      obtain ⟨rfl, rfl⟩ := e3
      exact ⟨⟨c1 0, c1 1⟩, ⟨c0 0, c0 1⟩, ⟨c0 2, c0 3⟩⟩
end Go.Proofs.YtjbdhakogbolkabDoor
end
section
/- A list of spans that came in. -/
namespace Go.Proofs.YtjbdhakogbolkabDoor
open Go.ChangeShapes Go.WideShapes Go.ChangeAt Go.RowKit Go.Deep
section
variable {H : Type} {enc : TypeId × Value → H} {W : World} {x : DataW H × List MemPlace}
theorem open_spans {fuel : Nat} {a : Option Addr} {len cap : Nat} (h : DataW.trod enc Tryd.prog W 0 (fun _ => true) true fuel 24 (Value.slice a len cap).cells.toList = some x) :
    ∃ l : List Sp, len = l.length ∧ l.length ≤ cap ∧ cap ≤ 9223372036854775807 ∧ SPS W a l ∧ ∃ e s, x.1 = .slice e s ∧ e.length = l.length ∨ x.1 = .nil ∧ l = [] := by
  rcases open_slice_pairs Tryd.underlying24 und26 cells26 rfl rfl cellsOf21 cellsOf21 h with ⟨hcs, rfl⟩ | ⟨b, n, c, m, k, V0, V1, D0, D1, P0, P1, hcs, _, hl, hm, hmm, rfl, hel⟩
  · simp [Value.cells] at hcs
    obtain ⟨rfl, rfl, rfl⟩ := hcs
    exact ⟨[], rfl, Nat.le_refl _, by omega, .inl rfl, [], [], .inr ⟨rfl, rfl⟩⟩
  · simp [Value.cells] at hcs
    obtain ⟨rfl, rfl, rfl⟩ := hcs
    simp only [if_true] at hmm
    subst hmm
    unfold maxLen at hm
    have each : ∀ i, i < len → ∃ q : Sp, W.cell? (b.add (i * 2)) = some (.int .i32 q.lo) ∧ W.cell? (b.add (i * 2 + 1)) = some (.int .i32 q.hi) := by
      intro i hi
      obtain ⟨h0, h1, h2, h3⟩ := hel i (by omega)
      obtain ⟨n0, e0, _, _⟩ := DataW.trod_int Tryd.underlying21 h2
      obtain ⟨n1, e1, _, _⟩ := DataW.trod_int Tryd.underlying21 h3
      simp at e0 e1
      exact ⟨⟨n0, n1⟩, by rw [h0, e0], by rw [h1, e1]⟩
    haveI : Inhabited Sp := ⟨⟨0, 0⟩⟩
    obtain ⟨q, hq⟩ := choose_lt each
    refine ⟨(List.range len).map q, by simp, by simpa using hl, hm, ?_, _, _, .inl ⟨rfl, by simp⟩⟩
    by_cases h0 : len = 0
    · subst h0; exact .inl rfl
    · obtain ⟨blk, off, spot⟩ := b
      have hspot : spot = none := by simpa [Addr.add] using World.cell?_spot (hq 0 (by omega)).1
      subst hspot
      refine .inr ⟨blk, off, rfl, fun i y hy => ?_⟩
      have hi : i < len := by
        have := (List.getElem?_eq_some_iff.1 hy).1
        simpa using this
      rw [List.getElem?_map, List.getElem?_range hi] at hy
      obtain rfl : q i = y := by simpa using hy
      obtain ⟨h1, h2⟩ := hq i hi
      rw [add_plain] at h1 h2
      exact ⟨h1, by rw [Nat.add_assoc]; exact h2⟩
end
end Go.Proofs.YtjbdhakogbolkabDoor
end
section
/- Models' data that came in. -/
namespace Go.Proofs.YtjbdhakogbolkabDoor
open Go.ChangeShapes Go.WideShapes Go.ChangeAt Go.RowKit Go.Deep Go.Joins
def fd0 : Field := Field.mk "Words" 22 0 false "" "" 0
def fd1 : Field := Field.mk "Merges" 23 1 false "" "" 24
def fd2 : Field := Field.mk "Letters" 24 2 false "" "" 48
def fd3 : Field := Field.mk "Numbers" 24 3 false "" "" 72
def fd4 : Field := Field.mk "Spaces" 24 4 false "" "" 96
theorem undD : Tryd.prog.underlying 26 = some (.struct #[fd0, fd1, fd2, fd3, fd4]) := by kernel_rfl
theorem cellsD : Tryd.prog.cellsOf 26 = 5 := by kernel_rfl
theorem cellsS30 : Tryd.prog.cellsOf 24 = 1 := by kernel_rfl
theorem cellsS44 : Tryd.prog.cellsOf 22 = 1 := by kernel_rfl
theorem cellsS45 : Tryd.prog.cellsOf 23 = 1 := by kernel_rfl
theorem cells9 : Tryd.prog.cellsOf 9 = 1 := by kernel_rfl
theorem cells3 : Tryd.prog.cellsOf 3 = 1 := by kernel_rfl
theorem cellsMg : Tryd.prog.cellsOf 79 = 3 := by kernel_rfl
def fg0 : Field := Field.mk "Left" 3 0 false "" "" 0
def fg1 : Field := Field.mk "Right" 3 1 false "" "" 8
def fg2 : Field := Field.mk "Id" 3 2 false "" "" 16
theorem undMg : Tryd.prog.underlying 79 = some (.struct #[fg0, fg1, fg2]) := by kernel_rfl
section
variable {H : Type} {enc : TypeId × Value → H} {W : World} {x : DataW H × List MemPlace}
theorem one_slice {t e : TypeId} (ht : Tryd.prog.underlying t = some (.slice e)) {fuel : Nat} {v : Value} {y : DataW H × List MemPlace} (h : DataW.trod enc Tryd.prog W 0 (fun _ => true) true fuel t [v] = some y) : ∃ a n c, v = .slice a n c := by
  rcases DataW.trod_slice ht h with ⟨h1, _⟩ | ⟨a, n, c, _, _, _, _, h1, _⟩
  · exact ⟨none, 0, 0, by simpa using h1⟩
  · exact ⟨some a, n, c, by simpa using h1⟩
/-- What a reading says of a list's weight. -/
def WtN (y : DataW H) (n : Nat) : Prop := ∃ e s, y = .slice e s ∧ e.length = n ∨ y = .nil ∧ n = 0
theorem open_words {fuel : Nat} {a : Option Addr} {len cap : Nat} (h : DataW.trod enc Tryd.prog W 0 (fun _ => true) true fuel 22 [Value.slice a len cap] = some x) :
    ∃ l : List ByteArray, len = l.length ∧ l.length ≤ cap ∧ cap ≤ 9223372036854775807 ∧ WSP W a l ∧ WtN x.1 l.length := by
  rcases open_strs Tryd.underlying22 Tryd.underlying9 cells9 h with ⟨hcs, rfl⟩ | ⟨b, n, c, m, Sx, hcs, _, hl, hm, hmm, rfl, hel⟩
  · simp at hcs
    obtain ⟨rfl, rfl, rfl⟩ := hcs
    exact ⟨[], rfl, Nat.le_refl _, by omega, .inl rfl, [], [], .inr ⟨rfl, rfl⟩⟩
  · simp at hcs
    obtain ⟨rfl, rfl, rfl⟩ := hcs
    simp only [if_true] at hmm
    subst hmm
    unfold maxLen at hm
    refine ⟨(List.range len).map Sx, by simp, by simpa using hl, hm, ?_, _, _, .inl ⟨rfl, by simp⟩⟩
    by_cases h0 : len = 0
    · subst h0; exact .inl rfl
    · obtain ⟨blk, off, spot⟩ := b
      have hspot : spot = none := by simpa [Addr.add] using World.cell?_spot (hel 0 (by omega)).1
      subst hspot
      refine .inr ⟨blk, off, rfl, fun i y hy => ?_⟩
      have hi : i < len := by
        have := (List.getElem?_eq_some_iff.1 hy).1
        simpa using this
      rw [List.getElem?_map, List.getElem?_range hi] at hy
      obtain rfl : Sx i = y := by simpa using hy
      have h1 := (hel i (by omega)).1
      rw [add_plain] at h1
      exact h1
set_option maxRecDepth 100000 in
theorem open_merges {fuel : Nat} {a : Option Addr} {len cap : Nat} (h : DataW.trod enc Tryd.prog W 0 (fun _ => true) true fuel 23 [Value.slice a len cap] = some x) :
    ∃ l : List Mg, len = l.length ∧ l.length ≤ cap ∧ cap ≤ 9223372036854775807 ∧ MSP W a l ∧ MWf l ∧ WtN x.1 l.length := by
  rcases open_slice Tryd.underlying23 h with ⟨hcs, rfl⟩ | ⟨b, n, c, m, k, D, Pl, hcs, _, hl, hm, hmm, rfl, hel⟩
  · simp at hcs
    obtain ⟨rfl, rfl, rfl⟩ := hcs
    exact ⟨[], rfl, Nat.le_refl _, by omega, .inl rfl, fun i x h => by simp at h, [], [], .inr ⟨rfl, rfl⟩⟩
  · simp at hcs
    obtain ⟨rfl, rfl, rfl⟩ := hcs
    simp only [if_true] at hmm
    subst hmm
    unfold maxLen at hm
    have each : ∀ i, i < len → ∃ q : Mg, W.cell? (b.add (i * 3)) = some (.int .i64 q.l) ∧ W.cell? (b.add (i * 3 + 1)) = some (.int .i64 q.r) ∧ W.cell? (b.add (i * 3 + 2)) = some (.int .i64 q.i) ∧ W64 q.l ∧ W64 q.r ∧ W64 q.i := by
      intro i hi
      obtain ⟨cs', h1, h2⟩ := hel i (by omega)
      rw [cellsMg] at h1
      obtain ⟨_, hlen, hcell⟩ := World.cells?_some h1
      obtain ⟨xs, k', hk, hxy, _, hxl, hf⟩ := DataW.trod_struct undMg h2
      match xs, hxl, cs', hlen with
      | [y0, y1, y2], _, [v0, v1, v2], _ =>
        have g0 := hf 0 fg0 rfl
        have g1 := hf 1 fg1 rfl
        have g2 := hf 2 fg2 rfl
        simp [fg0, fg1, fg2, cells3] at g0 g1 g2
        have e0 := hcell 0 (by omega)
        have e1 := hcell 1 (by omega)
        have e2 := hcell 2 (by omega)
        rw [add_add] at e0 e1 e2
        obtain ⟨n0, q0, -, w0⟩ := DataW.trod_int Tryd.underlying3 g0
        obtain ⟨n1, q1, -, w1⟩ := DataW.trod_int Tryd.underlying3 g1
        obtain ⟨n2, q2, -, w2⟩ := DataW.trod_int Tryd.underlying3 g2
        simp at q0 q1 q2
        subst q0 q1 q2
        simp [Lit.wf, IntKind.min, IntKind.max, IntKind.signed, IntKind.bits] at w0 w1 w2
        exact ⟨⟨n0, n1, n2⟩, by simpa using e0, by simpa using e1, by simpa using e2, by unfold W64; omega, by unfold W64; omega, by unfold W64; omega⟩
    haveI : Inhabited Mg := ⟨⟨0, 0, 0⟩⟩
    obtain ⟨q, hq⟩ := choose_lt each
    refine ⟨(List.range len).map q, by simp, by simpa using hl, hm, ?_, ?_, _, _, .inl ⟨rfl, by simp⟩⟩
    · by_cases h0 : len = 0
      · subst h0; exact .inl rfl
      · obtain ⟨blk, off, spot⟩ := b
        have hspot : spot = none := by simpa [Addr.add] using World.cell?_spot (hq 0 (by omega)).1
        subst hspot
        refine .inr ⟨blk, off, rfl, fun i y hy => ?_⟩
        have hi : i < len := by
          have := (List.getElem?_eq_some_iff.1 hy).1
          simpa using this
        rw [List.getElem?_map, List.getElem?_range hi] at hy
        obtain rfl : q i = y := by simpa using hy
        obtain ⟨h1, h2, h3, -⟩ := hq i hi
        rw [add_plain] at h1 h2 h3
        exact ⟨h1, by rw [Nat.add_assoc]; exact h2, by rw [Nat.add_assoc]; exact h3⟩
    · intro i y hy
      have hi : i < len := by
        have := (List.getElem?_eq_some_iff.1 hy).1
        simpa using this
      rw [List.getElem?_map, List.getElem?_range hi] at hy
      obtain rfl : q i = y := by simpa using hy
      exact (hq i hi).2.2.2
set_option maxRecDepth 100000 in
theorem open_mdata {fuel : Nat} {v : Value} (hv : Value.okWide Tryd.prog W .any 0 26 v) (h : DataW.trod enc Tryd.prog W 0 (fun _ => true) true fuel 26 v.cells.toList = some x) :
    ∃ aw cw am cm a ca b cb c cc, ∃ (ws : List ByteArray) (ms : List Mg) (A B C : List Sp), v = .agg #[.slice aw ws.length cw, .slice am ms.length cm, .slice a A.length ca, .slice b B.length cb, .slice c C.length cc] ∧ WSP W aw ws ∧ MSP W am ms ∧ MWf ms ∧ Lst W a ca A ∧ Lst W b cb B ∧ Lst W c cc C ∧
      ∃ y0 y1 y2 y3 y4, x.1 = .agg [y0, y1, y2, y3, y4] ∧ WtN y0 ws.length ∧ WtN y1 ms.length ∧ WtN y2 A.length ∧ WtN y3 B.length ∧ WtN y4 C.length := by
  obtain ⟨cs, rfl, hsz⟩ := okWide_struct undD hv
  rw [cellsD] at hsz
  obtain ⟨v0, v1, v2, v3, v4, rfl⟩ : ∃ v0 v1 v2 v3 v4, cs = #[v0, v1, v2, v3, v4] := by
    obtain ⟨l⟩ := cs
    have hl : l.length = 5 := hsz
    cases l with
    | nil => simp at hl
    | cons v0 l => cases l with
      | nil => simp at hl
      | cons v1 l => cases l with
        | nil => simp at hl
        | cons v2 l => cases l with
          | nil => simp at hl
          | cons v3 l => cases l with
            | nil => simp at hl
            | cons v4 l => cases l with
              | nil => exact ⟨_, _, _, _, _, rfl⟩
              | cons _ _ => simp at hl
  obtain ⟨xs, n, rfl, hx, -, hn, hel⟩ := DataW.trod_struct undD h
  have h0 := hel 0 fd0 rfl
  have h1 := hel 1 fd1 rfl
  have h2 := hel 2 fd2 rfl
  have h3 := hel 3 fd3 rfl
  have h4 := hel 4 fd4 rfl
  simp only [Value.cells, fd0, fd1, fd2, fd3, fd4, cellsS30, cellsS44, cellsS45, List.drop_zero, List.drop_succ_cons, List.take_succ_cons, List.take_zero] at h0 h1 h2 h3 h4
  have hn : xs.length = 5 := hn
  have g0 : xs[0]? = some xs[0] := List.getElem?_eq_getElem (by omega)
  have g1 : xs[1]? = some xs[1] := List.getElem?_eq_getElem (by omega)
  have g2 : xs[2]? = some xs[2] := List.getElem?_eq_getElem (by omega)
  have g3 : xs[3]? = some xs[3] := List.getElem?_eq_getElem (by omega)
  have g4 : xs[4]? = some xs[4] := List.getElem?_eq_getElem (by omega)
  rw [g0] at h0
  rw [g1] at h1
  rw [g2] at h2
  rw [g3] at h3
  rw [g4] at h4
  obtain ⟨s0, n0, c0, rfl⟩ := one_slice Tryd.underlying22 h0
  obtain ⟨s1, n1, c1, rfl⟩ := one_slice Tryd.underlying23 h1
  obtain ⟨a, na, ca, rfl⟩ := one_slice Tryd.underlying24 h2
  obtain ⟨b, nb, cb, rfl⟩ := one_slice Tryd.underlying24 h3
  obtain ⟨c, nc, cc, rfl⟩ := one_slice Tryd.underlying24 h4
  obtain ⟨ws, rfl, -, -, w3, ew⟩ := open_words h0
  obtain ⟨ms, rfl, -, -, m3, m4, em⟩ := open_merges h1
  obtain ⟨A, rfl, a1, a2, a3, ea⟩ := open_spans (a := a) (len := na) (cap := ca) h2
  obtain ⟨B, rfl, b1, b2, b3, eb⟩ := open_spans (a := b) (len := nb) (cap := cb) h3
  obtain ⟨C, rfl, c1', c2, c3, ec⟩ := open_spans (a := c) (len := nc) (cap := cc) h4
  have wt : ∀ {y : DataW H} {l : List Sp}, (∃ e s, y = .slice e s ∧ e.length = l.length ∨ y = .nil ∧ l = []) → WtN y l.length := fun h => by
    obtain ⟨e, s, ⟨h1, h2⟩ | ⟨h1, h2⟩⟩ := h
    · exact ⟨e, s, .inl ⟨h1, h2⟩⟩
    · exact ⟨e, s, .inr ⟨h1, by rw [h2]; rfl⟩⟩
  refine ⟨s0, c0, s1, c1, a, ca, b, cb, c, cc, ws, ms, A, B, C, rfl, w3, m3, m4, ⟨a1, a2, a3⟩, ⟨b1, b2, b3⟩, ⟨c1', c2, c3⟩, (xs[0]).1, (xs[1]).1, (xs[2]).1, (xs[3]).1, (xs[4]).1, ?_, ew, em, wt ea, wt eb, wt ec⟩
  rw [hx]
  simp only
  congr 1
  apply List.ext_getElem (by simpa using hn)
  intro i hi hi'
  have hi5 : i < 5 := by simpa using hi'
  rcases (show i = 0 ∨ i = 1 ∨ i = 2 ∨ i = 3 ∨ i = 4 by omega) with rfl | rfl | rfl | rfl | rfl <;> simp
theorem sized_partN {ts : List TypeId} {ds : List (DataW H)} (h : (DataW.weightsEach Tryd.prog ts ds).all (· ≤ reachBytes) = true) {j k q el : Nat} {t : TypeId} {y : DataW H} {ys : List (DataW H)} {n : Nat} (ht : ts[j]? = some 26) (hd : ds[j]? = some (.agg ys)) (hk : ([fd0, fd1, fd2, fd3, fd4].map (·.type))[k]? = some t) (hu : Tryd.prog.underlying t = some (.slice el)) (hby : Tryd.prog.bytesOf el = q) (hy : ys[k]? = some y) (hw : WtN y n) : n * q ≤ reachBytes := by
  obtain ⟨e, s, ⟨rfl, h2⟩ | ⟨-, h2⟩⟩ := hw
  · have h1 := List.all_eq_true.1 h _ (DataW.weights_mem_each ht hd ((e.length + s.length) * Tryd.prog.bytesOf el) (by
      have h3 := DataW.weights_mem_each (P := Tryd.prog) hk hy ((e.length + s.length) * Tryd.prog.bytesOf el) (by simp [DataW.weights, hu])
      simpa [DataW.weights, undD, fd0, fd1, fd2, fd3, fd4] using h3))
    rw [hby] at h1
    have h1 : (e.length + s.length) * q ≤ reachBytes := by simpa using h1
    rw [← h2]
    exact Nat.le_trans (Nat.mul_le_mul_right _ (Nat.le_add_right _ _)) h1
  · rw [h2]; simp
theorem sizes_data {ts : List TypeId} {ds : List (DataW H)} (h : (DataW.weightsEach Tryd.prog ts ds).all (· ≤ reachBytes) = true) {j : Nat} {y0 y1 y2 y3 y4 : DataW H} {n0 n1 n2 n3 n4 : Nat} (ht : ts[j]? = some 26) (hd : ds[j]? = some (.agg [y0, y1, y2, y3, y4])) (w0 : WtN y0 n0) (w1 : WtN y1 n1) (w2 : WtN y2 n2) (w3 : WtN y3 n3) (w4 : WtN y4 n4) :
    n0 ≤ 8796093022208 ∧ n1 ≤ 5864062014805 ∧ n2 ≤ 17592186044416 ∧ n3 ≤ 17592186044416 ∧ n4 ≤ 17592186044416 := by
  have h0 := sized_partN (k := 0) h ht hd rfl Tryd.underlying22 (show Tryd.prog.bytesOf 9 = 16 by kernel_rfl) rfl w0
  have h1 := sized_partN (k := 1) h ht hd rfl Tryd.underlying23 (show Tryd.prog.bytesOf 79 = 24 by kernel_rfl) rfl w1
  have h2 := sized_partN (k := 2) h ht hd rfl Tryd.underlying24 (show Tryd.prog.bytesOf 81 = 8 by kernel_rfl) rfl w2
  have h3 := sized_partN (k := 3) h ht hd rfl Tryd.underlying24 (show Tryd.prog.bytesOf 81 = 8 by kernel_rfl) rfl w3
  have h4 := sized_partN (k := 4) h ht hd rfl Tryd.underlying24 (show Tryd.prog.bytesOf 81 = 8 by kernel_rfl) rfl w4
  unfold reachBytes at h0 h1 h2 h3 h4
  omega
end
end Go.Proofs.YtjbdhakogbolkabDoor
end
