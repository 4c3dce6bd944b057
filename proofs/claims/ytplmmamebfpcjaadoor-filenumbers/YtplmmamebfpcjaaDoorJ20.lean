import Derived.Test.YtplmmamebfpcjaaDoorJ19
import Derived.Test.YtplmmamebfpcjaaDoorJ10
import Derived.Shelf.Strconv.Itoa3
import Derived.Test.YtplmmamebfpcjaaDoorProg
import Derived.Test.YtplmmamebfpcjaaDoorJ11
import Derived.LaidEql
import Derived.Stop.Asserts
import Derived.Stop.IfaceNil
import Derived.Lib.IfaceEq
import Derived.RowKitTokens
import Derived.Test.YtplmmamebfpcjaaDoorJ12
import Derived.Test.YtplmmamebfpcjaaDoorJ1
import Derived.ProofKit
import Derived.LaidMore
import Derived.OpenShut
import Derived.Stop.Joined
import Derived.Lib.LaidTab
import Derived.Test.YtplmmamebfpcjaaDoorJ9
import Derived.Lib.SmallJoins
import Derived.Lib.AppendIntMem
import Derived.Lib.ItoaLen
section
/- file.Load: its contract. -/
namespace Go.Proofs.YtplmmamebfpcjaaDoor
open Go.RowKit Go.Sort Go.Joins
set_option linter.unusedVariables false
set_option maxRecDepth 100000
theorem AllAt.below {w w' : World} {B : Nat} {s : RS} {r : Raw} (h : AllAt w B s r) (hb : Below w.heap.size w w') : AllAt w' B s r :=
  ⟨h.wr.kt (KT.of_below hb), h.wp.kt (KT.of_below hb), h.mr.kt (KT.of_below hb), h.mp.kt (KT.of_below hb), h.ar.kt (KT.of_below hb), h.ap.kt (KT.of_below hb), h.br.kt (KT.of_below hb), h.bp.kt (KT.of_below hb), h.cr.kt (KT.of_below hb), h.cp.kt (KT.of_below hb), h.bl⟩
theorem RowW.wsp {w : World} {B : Nat} {v : Value} {l : List ByteArray} (h : RowW w B v l) : ∃ x c, v = .slice x l.length c ∧ WSP w x l := by
  rcases h.2 with ⟨hv, h0⟩ | ⟨g, cap, cur, rfl, hg, hh, hn, hm, hcs, ht⟩
  · exact ⟨none, 0, by rw [hv, h0], .inl (List.length_eq_zero_iff.1 h0)⟩
  · refine ⟨_, cap, rfl, .inr ⟨g, 0, rfl, fun i k hk => ?_⟩⟩
    have hi := (List.getElem?_eq_some_iff.1 hk).1
    rw [Nat.zero_add, World.ownsRow.cellAt h i (by omega)]
    exact cellsW_get hk
theorem RowM.msp {w : World} {B : Nat} {v : Value} {l : List Mg} (h : RowM w B v l) : ∃ x c, v = .slice x l.length c ∧ MSP w x l := by
  rcases h.2 with ⟨hv, h0⟩ | ⟨g, cap, cur, rfl, hg, hh, hn, hm, hcs, ht⟩
  · exact ⟨none, 0, by rw [hv, h0], .inl (List.length_eq_zero_iff.1 h0)⟩
  · refine ⟨_, cap, rfl, .inr ⟨g, 0, rfl, fun i x hx => ?_⟩⟩
    have hi := (List.getElem?_eq_some_iff.1 hx).1
    obtain ⟨r0, r1, r2⟩ := cellsM_get l i x hx
    unfold MgAt
    rw [Nat.zero_add, World.ownsRow.cellAt h (i * 3) (by omega), World.ownsRow.cellAt h (i * 3 + 1) (by omega), World.ownsRow.cellAt h (i * 3 + 2) (by omega)]
    exact ⟨r0, r1, r2⟩
theorem RowS.lst {w : World} {B : Nat} {v : Value} {l : List Sp} (h : RowS w B v l) : ∃ x c, v = .slice x l.length c ∧ Lst w x c l := by
  rcases h.2 with ⟨hv, h0⟩ | ⟨g, cap, cur, rfl, hg, hh, hn, hm, hcs, ht⟩
  · exact ⟨none, 0, by rw [hv, h0], ⟨by omega, by omega, .inl (List.length_eq_zero_iff.1 h0)⟩⟩
  · refine ⟨_, cap, rfl, ⟨hn, by simpa [maxLen] using hm, .inr ⟨g, 0, rfl, fun i x hx => ?_⟩⟩⟩
    have hi := (List.getElem?_eq_some_iff.1 hx).1
    obtain ⟨r0, r1⟩ := cellsS_get l i x hx
    unfold SpAt
    rw [Nat.zero_add, World.ownsRow.cellAt h (i * 2) (by omega), World.ownsRow.cellAt h (i * 2 + 1) (by omega)]
    exact ⟨r0, r1⟩
/-- What Load leaves. -/
def LoadQ (w w' : World) (l : List UInt8) (e : Ending) : Prop :=
  match loadR l with
  | .error r => ∃ N, e = .returned (.tuple #[.pointer none, .iface 55 (.pointer (some ⟨N, 0, none⟩))]) ∧ w.heap.size ≤ N ∧ Rf w' N r
  | .ok r => ∃ g, e = .returned (.tuple #[.pointer (some ⟨g, 0, none⟩), .nilIface]) ∧ ModelAt w' w.heap.size g r.W r.M r.X r.Y r.Z
theorem loadR_long {l : List UInt8} (h : 4194304 < l.length) : loadR l = .error (0, 3) := by unfold loadR; rw [if_pos h]
theorem loadR_raw {l : List UInt8} (h : ¬ 4194304 < l.length) {e : Er} (h2 : rawP l = .error e) : loadR l = .error e := by unfold loadR; rw [if_neg h, h2]
theorem loadR_ok {l : List UInt8} (h : ¬ 4194304 < l.length) {r : Raw} (h2 : rawP l = .ok r) (h3 : (checkD r.W r.M r.X r.Y r.Z).1 = 0) : loadR l = .ok r := by
  unfold loadR; rw [if_neg h, h2]; simp only; rw [if_pos h3]
theorem loadR_no {l : List UInt8} (h : ¬ 4194304 < l.length) {r : Raw} (h2 : rawP l = .ok r) (h3 : (checkD r.W r.M r.X r.Y r.Z).1 ≠ 0) : loadR l = .error (placeR r (checkD r.W r.M r.X r.Y r.Z).2.1 (checkD r.W r.M r.X r.Y r.Z).2.2, (checkD r.W r.M r.X r.Y r.Z).1) := by
  unfold loadR; rw [if_neg h, h2]; simp only; rw [if_neg h3]
abbrev nilS : Value := .slice none 0 0
def rs0 (a : Option Addr) (n c : Nat) : RS := ⟨a, n, c, 0, none, nilS, nilS, nilS, nilS, nilS, fun _ => nilS, 0⟩
abbrev rdO (a : Option Addr) (n c : Nat) : Obj := .cells #[.slice a n c, .int .i64 0, .pointer none, nilS, nilS, nilS, nilS, nilS, nilS, nilS, nilS, nilS, nilS, nilS, .int .i64 0] 61
theorem rd_new (w : World) (a : Option Addr) (n c : Nat) : Rx (w.alloc (rdO a n c)) w.heap.size (rs0 a n c) (.ok 0) := heap_alloc_new _ _
theorem RowOf.mwf {r : Raw} (h : RawOk r) : MWf r.M := by
  intro i x hx
  have := h.ms x (List.mem_of_getElem? hx)
  unfold W64
  omega
theorem Raw.lenW (r : Raw) : r.W.length = r.ws.length := by simp [Raw.W]
theorem Raw.lenM (r : Raw) : r.M.length = r.ms.length := by simp [Raw.M]
theorem firstBad_le (f : Nat → Nat) (n : Nat) : (firstBad f n).2 ≤ n := by
  rcases firstBad_cases f n with ⟨_, h⟩ | ⟨k, h1, _, _, h⟩
  · rw [h]; exact Nat.zero_le _
  · rw [h]; exact Nat.le_of_lt h1
set_option maxHeartbeats 1000000 in
theorem load_any (a : Option Addr) (c : Nat) (l : List UInt8) (w : World) (hlen : l.length ≤ 9223372036854775807) (hcap : l.length ≤ c) (hbs : Oc.BS w a l) (hG : GL w) :
    Calls Tryd.prog 6 #[.slice a l.length c] w fun e w' => LoadQ w w' l e ∧ Below w.heap.size w w' := by
  by_cases hl : 4194304 < l.length
  · have hlI : (4194304 : Int) < (l.length : Int) := by omega
    have hb := box_below w (.cells #[.int .i64 0, .int .i64 3] 57)
    have hN := heap_alloc_new w (.cells #[.int .i64 0, .int .i64 3] 57)
    go_enter Tryd.func6, Tryd.ntmps6
    go_wp2_with fail
    go_ret2
    refine ⟨?_, hb⟩
    unfold LoadQ
    rw [loadR_long hl]
    exact ⟨_, rfl, Nat.le_refl _, hN⟩
  · have hlI : ¬ (4194304 : Int) < (l.length : Int) := by omega
    have hb0 := box_below w (rdO a l.length c)
    have hx0 := rd_new w a l.length c
    obtain ⟨Y, hY⟩ : ∃ Y, Y = w.alloc (rdO a l.length c) := ⟨_, rfl⟩
    have hYs : Y.heap.size = w.heap.size + 1 := by rw [hY]; simp
    rw [← hY] at hb0 hx0
    have hA := all_any w.heap.size Y.heap.size 0 (rs0 a l.length c) l w Y ⟨rfl, hcap, by omega, hbs, hb0, Nat.le_refl _, by omega, Nat.le_refl _⟩ hx0 rfl rfl rfl rfl rfl rfl rfl
    have HY : Hid (Y = w.alloc (rdO a l.length c)) := hY
    have HYs : Hid (Y.heap.size = w.heap.size + 1) := hYs
    have HG : Hid (GL w) := hG
    clear hbs hY hx0 hG hYs
    cases hraw : rawP l with
    | error r =>
      rw [hraw] at hA
      have hLR := loadR_raw hl hraw
      unfold LoadQ
      rw [hLR]
      clear hLR hraw
      go_enter Tryd.func6, Tryd.ntmps6
      go_wp2_with fail
      rw [← HY.out]
      refine hA.mono ?_
      rintro e w1 ⟨rfl, hb1, s', ⟨p1, N, k1, k3, k4⟩, -⟩
      have B1 : Below w.heap.size w w1 := hb0.trans (hb1.below hb0.size (Nat.le_refl _))
      have c2 := k1.c2
      simp only at c2
      clear hA k1 hb1
      go_wp2_with fail
      go_quiet (fail)
      go_wp2_with fail
      go_ret2
      exact ⟨⟨N, rfl, Nat.le_of_lt k3, k4.below (below_drawn w1 _) k4.lt⟩, B1.trans ((below_drawn w1 _).mono B1.size)⟩
    | ok r =>
      rw [hraw] at hA
      have hrk := raw_ok hraw
      have hmwf := RowOf.mwf hrk
      have hnw := hrk.nw
      have hlw := r.lenW
      have hlm := r.lenM
      have hnm := hrk.nm
      have hli := checkD_li (ws := r.W) (ms := r.M) (A := r.X) (B := r.Y) (C := r.Z)
      have hno := loadR_no hl hraw
      have hok := loadR_ok hl hraw
      have hnew := fun aw am aa ab ac cw cm ca cb cc wx h1 h2 h3 h4 h5 h6 => mnew_any aw am aa ab ac cw cm ca cb cc r.W r.M r.X r.Y r.Z wx hmwf (by rw [hlw]; omega) h1 h2 h3 h4 h5 h6
      obtain ⟨⟨y, li, ro⟩, hq⟩ : ∃ k, k = checkD r.W r.M r.X r.Y r.Z := ⟨_, rfl⟩
      rw [← hq] at hli hno hok hnew
      unfold f3V at hnew
      simp only at hli hno hok hnew
      have HNEW : Hid _ := hnew
      unfold LoadQ
      clear hraw hnew hq hmwf hrk hlw hlm hnm hnw
      by_cases hy : y = 0
      · rw [hok hy]
        subst hy
        clear hok hno hli
        go_enter Tryd.func6, Tryd.ntmps6
        go_wp2_with fail
        rw [← HY.out]
        refine hA.mono ?_
        rintro e w1 ⟨rfl, hb1, s', q, hx1, ha1⟩
        have B1 : Below w.heap.size w w1 := hb0.trans (hb1.below hb0.size (Nat.le_refl _))
        obtain ⟨aw, cw, ew, hW⟩ := ha1.wr.wsp
        obtain ⟨am, cm, em, hM⟩ := ha1.mr.msp
        obtain ⟨aa, ca, ea, hA1⟩ := ha1.ar.lst
        obtain ⟨ab, cb, eb, hB1⟩ := ha1.br.lst
        obtain ⟨ac, cc, ec, hC1⟩ := ha1.cr.lst
        have c2 : w1.cell? ⟨w.heap.size, 2, none⟩ = some (.pointer none) := RB.c2 (s := { s' with p := q, no := none }) hx1
        have c3 : w1.cell? ⟨w.heap.size, 3, none⟩ = some (.slice aw r.W.length cw) := (RB.c3 (s := { s' with p := q, no := none }) hx1).trans (congrArg some ew)
        have c4 : w1.cell? ⟨w.heap.size, 4, none⟩ = some (.slice am r.M.length cm) := (RB.c4 (s := { s' with p := q, no := none }) hx1).trans (congrArg some em)
        have c5 : w1.cell? ⟨w.heap.size, 5, none⟩ = some (.slice aa r.X.length ca) := (RB.c5 (s := { s' with p := q, no := none }) hx1).trans (congrArg some ea)
        have c6 : w1.cell? ⟨w.heap.size, 6, none⟩ = some (.slice ab r.Y.length cb) := (RB.c6 (s := { s' with p := q, no := none }) hx1).trans (congrArg some eb)
        have c7 : w1.cell? ⟨w.heap.size, 7, none⟩ = some (.slice ac r.Z.length cc) := (RB.c7 (s := { s' with p := q, no := none }) hx1).trans (congrArg some ec)
        have HN1 := HNEW.out aw am aa ab ac cw cm ca cb cc w1 hW hM hA1 hB1 hC1 (HG.out.below B1)
        have HX1 : Hid (Rx w1 w.heap.size s' (.ok q)) := hx1
        have HA1 : Hid (AllAt w1 Y.heap.size s' r) := ha1
        clear hA hb1 hx1 ha1 ew em ea eb ec hW hM hA1 hB1 hC1
        go_wp2_with fail
        refine HN1.mono ?_
        rintro e w2 ⟨p, rfl, hp1, hp2, hb2⟩
        simp only []
        have hbn := box_below w2 (.cells #[.int .i64 ((0 : Nat) : Int), .int .i64 (li : Nat), .int .i64 (ro : Nat)] 36)
        have B2 := B1.trans (hb2.mono B1.size)
        have B3 := B2.trans (hbn.mono B2.size)
        have hF := Blk.new w2 (.cells #[.int .i64 ((0 : Nat) : Int), .int .i64 (li : Nat), .int .i64 (ro : Nat)] 36)
        clear HN1 c2 c3 c4 c5 c6 c7
        obtain ⟨gm, rfl, hMd⟩ := hp1 (by trivial)
        have HMd := (hMd.below hbn).low (lo' := w.heap.size) B1.size
        have f0 := hF.cell 0
        rw [show ((0 : Nat) : Int) = 0 from rfl] at f0 HMd B3 ⊢
        clear hp1 hp2 hMd hF hbn hb2
        go_wp2_with fail
        go_ret2
        exact ⟨⟨gm, rfl, HMd⟩, B3⟩
      · rw [hno hy]
        obtain ⟨hl1, hl2⟩ := hli hy
        clear hok hno hli
        go_enter Tryd.func6, Tryd.ntmps6
        go_wp2_with fail
        rw [← HY.out]
        refine hA.mono ?_
        rintro e w1 ⟨rfl, hb1, s', q, hx1, ha1⟩
        have B1 : Below w.heap.size w w1 := hb0.trans (hb1.below hb0.size (Nat.le_refl _))
        obtain ⟨aw, cw, ew, hW⟩ := ha1.wr.wsp
        obtain ⟨am, cm, em, hM⟩ := ha1.mr.msp
        obtain ⟨aa, ca, ea, hA1⟩ := ha1.ar.lst
        obtain ⟨ab, cb, eb, hB1⟩ := ha1.br.lst
        obtain ⟨ac, cc, ec, hC1⟩ := ha1.cr.lst
        have c2 : w1.cell? ⟨w.heap.size, 2, none⟩ = some (.pointer none) := RB.c2 (s := { s' with p := q, no := none }) hx1
        have c3 : w1.cell? ⟨w.heap.size, 3, none⟩ = some (.slice aw r.W.length cw) := (RB.c3 (s := { s' with p := q, no := none }) hx1).trans (congrArg some ew)
        have c4 : w1.cell? ⟨w.heap.size, 4, none⟩ = some (.slice am r.M.length cm) := (RB.c4 (s := { s' with p := q, no := none }) hx1).trans (congrArg some em)
        have c5 : w1.cell? ⟨w.heap.size, 5, none⟩ = some (.slice aa r.X.length ca) := (RB.c5 (s := { s' with p := q, no := none }) hx1).trans (congrArg some ea)
        have c6 : w1.cell? ⟨w.heap.size, 6, none⟩ = some (.slice ab r.Y.length cb) := (RB.c6 (s := { s' with p := q, no := none }) hx1).trans (congrArg some eb)
        have c7 : w1.cell? ⟨w.heap.size, 7, none⟩ = some (.slice ac r.Z.length cc) := (RB.c7 (s := { s' with p := q, no := none }) hx1).trans (congrArg some ec)
        have HN1 := HNEW.out aw am aa ab ac cw cm ca cb cc w1 hW hM hA1 hB1 hC1 (HG.out.below B1)
        have HX1 : Hid (Rx w1 w.heap.size s' (.ok q)) := hx1
        have HA1 : Hid (AllAt w1 Y.heap.size s' r) := ha1
        clear hA hb1 hx1 ha1 ew em ea eb ec hW hM hA1 hB1 hC1
        go_wp2_with fail
        refine HN1.mono ?_
        rintro e w2 ⟨p, rfl, hp1, hp2, hb2⟩
        simp only []
        have hbn := box_below w2 (.cells #[.int .i64 (y : Nat), .int .i64 (li : Nat), .int .i64 (ro : Nat)] 36)
        have B2 := B1.trans (hb2.mono B1.size)
        have B3 := B2.trans (hbn.mono B2.size)
        have hF := Blk.new w2 (.cells #[.int .i64 (y : Nat), .int .i64 (li : Nat), .int .i64 (ro : Nat)] 36)
        clear HN1 c2 c3 c4 c5 c6 c7
        obtain rfl := hp2 hy
        have hne : ((y : Int) == 0) = false := by simp; omega
        obtain ⟨w3, hw3⟩ : ∃ w3, w3 = w2.alloc (.cells #[.int .i64 (y : Nat), .int .i64 (li : Nat), .int .i64 (ro : Nat)] 36) := ⟨_, rfl⟩
        have f0 := hF.cell 0
        have f1 := hF.cell 1
        have f2 := hF.cell 2
        have B23 : Below w1.heap.size w1 w3 := by rw [hw3]; exact hb2.trans (hbn.mono hb2.size)
        have hx3 : Rx w3 w.heap.size s' (.ok q) := Rx.below HX1.out B23
        have ha3 : AllAt w3 Y.heap.size s' r := HA1.out.below B23
        rw [← hw3] at B3 hF
        have hd : Below w3.heap.size w3 w3.drew := (Below.refl _ _).drew
        have hP := place_any w.heap.size Y.heap.size q y li ro s' r w3.drew (Rx.below hx3 hd) (ha3.below hd) hl1 hl2
        obtain ⟨z2, hz2⟩ : ∃ z2, z2 = w2.heap.size := ⟨_, rfl⟩
        have HW3 : Hid (w3 = w2.alloc (.cells #[.int .i64 (y : Nat), .int .i64 (li : Nat), .int .i64 (ro : Nat)] 36)) := hw3
        have HF : Hid (Blk w3 z2 (.cells #[.int .i64 (y : Nat), .int .i64 (li : Nat), .int .i64 (ro : Nat)] 36)) := by rw [hz2]; exact hF
        clear hp1 hp2 hF hbn hb2 hx3 ha3 hw3
        obtain ⟨pl, hpl⟩ : ∃ pl, pl = placeR r li ro := ⟨_, rfl⟩
        rw [← hpl] at hP
        have HPL : Hid (pl = placeR r li ro) := hpl
        have HZ2 : Hid (z2 = w2.heap.size) := hz2
        clear hpl hz2
        go_wp2_with fail
        rw [← HW3.out]
        rw [← HZ2.out]
        clear f0 f1 f2
        have f0 : w3.cell? ⟨z2, 0, none⟩ = some (.int .i64 (y : Nat)) := HF.out.cell 0
        have f1 : w3.cell? ⟨z2, 1, none⟩ = some (.int .i64 (li : Nat)) := HF.out.cell 1
        have f2 : w3.cell? ⟨z2, 2, none⟩ = some (.int .i64 (ro : Nat)) := HF.out.cell 2
        go_region_held3 (fun w' => w'.cell? ⟨z2, 0, none⟩ = some (.int .i64 (y : Nat)) ∧ w'.cell? ⟨z2, 1, none⟩ = some (.int .i64 (li : Nat)) ∧ w'.cell? ⟨z2, 2, none⟩ = some (.int .i64 (ro : Nat))) (go_keep) ((go_at_call 17; refine hP.mono ?_; rintro e w4 ⟨rfl, hb4⟩; have B4 := (HF.out.up hd).up hb4; have u0 : w4.cell? ⟨z2, 0, none⟩ = some (.int .i64 (y : Nat)) := B4.cell 0; have u1 : w4.cell? ⟨z2, 1, none⟩ = some (.int .i64 (li : Nat)) := B4.cell 1; have u2 : w4.cell? ⟨z2, 2, none⟩ = some (.int .i64 (ro : Nat)) := B4.cell 2; have v0 := cell_new u0; have v1 := cell_new u1; have v2 := cell_new u2))
        have B4' : Below w.heap.size w w4 := (B3.trans (hd.mono B3.size)).trans (hb4.mono (Nat.le_trans B3.size hd.size))
        have hb5 := box_below w4 (.cells #[.int .i64 (pl : Nat), .int .i64 (y : Nat)] 57)
        have hN5 := heap_alloc_new w4 (.cells #[.int .i64 (pl : Nat), .int .i64 (y : Nat)] 57)
        have B5 := B4'.trans (hb5.mono B4'.size)
        clear f0 f1 f2 u0 u1 u2 v0 v1 v2
        go_wp2_with fail
        go_ret2
        exact ⟨⟨w4.heap.size, rfl, B4'.size, by rw [← HPL.out]; exact hN5⟩, B5⟩
end Go.Proofs.YtplmmamebfpcjaaDoor
end
section
/- The contract of strconv.Itoa, laid off the shelf at this dump. -/
namespace Go.Proofs.YtplmmamebfpcjaaDoor
end Go.Proofs.YtplmmamebfpcjaaDoor
namespace Go.Proofs
open Go.Shelf
def Tryd.laysM171_ren : Go.Shelf.Ren := ⟨fun | 171 => 36 | 243 => 54 | 246 => 65 | 283 => 69 | 284 => 70 | 285 => 71 | 286 => 72 | 129 => 76 | 317 => 75 | 318 => 77 | 319 => 78 | 320 => 79 | 337 => 80 | 338 => 81 | n => n, fun | 3 => 3 | 9 => 9 | 2 => 2 | 4 => 4 | 171 => 138 | 0 => 0 | 53 => 134 | 37 => 22 | 5 => 5 | 173 => 141 | 212 => 147 | 51 => 53 | 20 => 20 | 213 => 148 | 46 => 74 | 232 => 153 | 233 => 154 | n => n, fun | 17 => 1 | 18 => 3 | 19 => 4 | n => n⟩
theorem Tryd.laysM171 : Go.Proofs.LaysM.n171 Tryd.prog Tryd.laysM171_ren := {
  mixed := by kernel_rfl
  f129 := Tryd.func76.trans (congrArg some (by kernel_rfl))
  f171 := Tryd.func36.trans (congrArg some (by kernel_rfl))
  f243 := Tryd.func54.trans (congrArg some (by kernel_rfl))
  f246 := Tryd.func65.trans (congrArg some (by kernel_rfl))
  f283 := Tryd.func69.trans (congrArg some (by kernel_rfl))
  f284 := Tryd.func70.trans (congrArg some (by kernel_rfl))
  f285 := Tryd.func71.trans (congrArg some (by kernel_rfl))
  f286 := Tryd.func72.trans (congrArg some (by kernel_rfl))
  f317 := Tryd.func75.trans (congrArg some (by kernel_rfl))
  f318 := Tryd.func77.trans (congrArg some (by kernel_rfl))
  f319 := Tryd.func78.trans (congrArg some (by kernel_rfl))
  f320 := Tryd.func79.trans (congrArg some (by kernel_rfl))
  f337 := Tryd.func80.trans (congrArg some (by kernel_rfl))
  f338 := Tryd.func81.trans (congrArg some (by kernel_rfl))
  t0 := Tryd.underlying0
  a0 := Tryd.isAgg0
  z0 := Tryd.sizeOf0
  v0 := Tryd.zeroValue0
  t2 := Tryd.underlying2
  a2 := Tryd.isAgg2
  z2 := Tryd.sizeOf2
  v2 := Tryd.zeroValue2
  t3 := Tryd.underlying3
  a3 := Tryd.isAgg3
  z3 := Tryd.sizeOf3
  v3 := Tryd.zeroValue3
  t4 := Tryd.underlying4
  a4 := Tryd.isAgg4
  z4 := Tryd.sizeOf4
  v4 := Tryd.zeroValue4
  t5 := Tryd.underlying5
  a5 := Tryd.isAgg5
  z5 := Tryd.sizeOf5
  v5 := Tryd.zeroValue5
  t9 := Tryd.underlying9
  a9 := Tryd.isAgg9
  z9 := Tryd.sizeOf9
  v9 := Tryd.zeroValue9
  t20 := Tryd.underlying20
  a20 := Tryd.isAgg20
  z20 := Tryd.sizeOf20
  v20 := Tryd.zeroValue20
  t37 := Tryd.underlying22
  a37 := Tryd.isAgg22
  z37 := Tryd.sizeOf22
  v37 := Tryd.zeroValue22
  t46 := Tryd.underlying74
  a46 := Tryd.isAgg74
  z46 := Tryd.sizeOf74
  v46 := Tryd.zeroValue74
  t51 := Tryd.underlying53
  a51 := Tryd.isAgg53
  z51 := Tryd.sizeOf53
  v51 := Tryd.zeroValue53
  t53 := Tryd.underlying134
  a53 := Tryd.isAgg134
  z53 := Tryd.sizeOf134
  v53 := Tryd.zeroValue134
  t171 := Tryd.underlying138
  a171 := Tryd.isAgg138
  z171 := Tryd.sizeOf138
  v171 := Tryd.zeroValue138
  t173 := Tryd.underlying141
  a173 := Tryd.isAgg141
  z173 := Tryd.sizeOf141
  v173 := Tryd.zeroValue141
  t212 := Tryd.underlying147
  a212 := Tryd.isAgg147
  z212 := Tryd.sizeOf147
  v212 := Tryd.zeroValue147
  t213 := Tryd.underlying148
  a213 := Tryd.isAgg148
  z213 := Tryd.sizeOf148
  t232 := Tryd.underlying153
  a232 := Tryd.isAgg153
  z232 := Tryd.sizeOf153
  v232 := Tryd.zeroValue153
  t233 := Tryd.underlying154
  a233 := Tryd.isAgg154
  z233 := Tryd.sizeOf154
  v233 := Tryd.zeroValue154
  g17 := by kernel_rfl
  g18 := by kernel_rfl
  g19 := by kernel_rfl
  i0 := by kernel_rfl
  i2 := by kernel_rfl
  i3 := by kernel_rfl
  i4 := by kernel_rfl
  i5 := by kernel_rfl
  i9 := by kernel_rfl
  i20 := by kernel_rfl
  i37 := by kernel_rfl
  i46 := by kernel_rfl
  i51 := by kernel_rfl
  i53 := by kernel_rfl
  i171 := by kernel_rfl
  i173 := by kernel_rfl
  i212 := by kernel_rfl
  i232 := by kernel_rfl
  i233 := by kernel_rfl
  m17 := by kernel_rfl
  m18 := by kernel_rfl
  m19 := by kernel_rfl }
open Go.RowKit Go.Sort Go.Lib in
/-- strconv.Itoa: "Itoa is equivalent to FormatInt(int64(i), 10).": i's DECIMAL NUMERAL ('Lib.itoa': a '-' where i is negative, then the digits), FOR EVERY int. The world behind the call: the world before it, new blocks behind the heap (the library's 'var a [24]byte'), draws. (LAID: no walk: one application.) -/
theorem Tryd.strconv_Itoa (n : Int) (h0 : -9223372036854775808 ≤ n) (h1 : n ≤ 9223372036854775807) (w : World) (htab : Lib.TabIs Tryd.prog w "internal/strconv.uint64pow10" .u64 Lib.pow10Tab) :
    Calls Tryd.prog 36 #[.int .i64 n] w fun e w' => e = .returned (.string ⟨(Lib.itoa n).toArray⟩) ∧ ∃ k os, w' = grow (w.drewN k) os := Any.strconv_Itoa Tryd.laysM171 n h0 h1 w htab
end Go.Proofs
end
section
/- errors.Is of a refusal of file's and the number that it wraps; sameErr; Unwrap: their contracts. -/
namespace Go.Proofs.YtplmmamebfpcjaaDoor
open Go.RowKit Go.Extern.Stop Go.Stop Go.Extern
set_option linter.unusedVariables false
set_option maxRecDepth 100000
theorem isTypeOf (v : Value) (w : World) : (Extern.ReflectliteType.typeOf #[.iface 34 v]).run Tryd.prog w = .ok (.iface 112 (.agg #[.pointer (some ⟨5, 34, none⟩)])) w := by kernel_rfl
theorem isComparable (w : World) : ((Extern.ReflectliteType.method fun t => do Rtype.noPackHeld "Comparable" t; (fun a => Value.bool a.comparable) <$> typeInfo t) #[.agg #[.pointer (some ⟨5, 34, none⟩)]]).run Tryd.prog w = .ok (.bool true) w := by kernel_rfl
theorem isMethodComparable (v : Value) (w : World) : (Go.method 285 112 v "Comparable").run Tryd.prog w = .ok (101, v) w := by kernel_rfl
theorem noIsW (v : Value) (xT : TypeId) (w : World) : (Instr.typeAssert (.iface 55 v) xT 114 true).run Tryd.prog w = .ok (.tuple #[.nilIface, .bool false]) w := run_typeAssert_lacksB Tryd.underlying114 (by kernel_rfl) (by kernel_rfl) v xT w
theorem hasUnwrapW (v : Value) (xT : TypeId) (w : World) : (Instr.typeAssert (.iface 55 v) xT 117 true).run Tryd.prog w = .ok (.tuple #[.iface 55 v, .bool true]) w := run_typeAssert_hasB Tryd.underlying117 (by kernel_rfl) v xT w
theorem methodUnwrap (v : Value) (w : World) : (Go.method 285 55 v "Unwrap").run Tryd.prog w = .ok (20, v) w := by kernel_rfl
theorem errComp : (Tryd.prog.info? 34).map (·.comparable) = some true := by kernel_rfl
theorem errEq (a b : Int) (w : World) : (binOp .eql 27 (.iface 34 (.int .i64 a)) (.iface 34 (.int .i64 b))).run Tryd.prog w = .ok (.bool (a == b)) w :=
  Lib.run_eql_iface_int w a b Tryd.underlying27 errComp Tryd.underlying34
theorem unwrap_any (w : World) (pb : Nat) (k : Int) (h : w.cell? ⟨pb, 1, none⟩ = some (.int .i64 k)) :
    Calls Tryd.prog 20 #[.pointer (some ⟨pb, 0, none⟩)] w fun e w' => e = .returned (.iface 34 (.int .i64 k)) ∧ w' = w := by
  go_enter Tryd.func20, Tryd.ntmps20
  go_wp2
  go_ret
  exact ⟨rfl, rfl⟩
theorem is_ref (w : World) (pb : Nat) (k : Int) (h : w.cell? ⟨pb, 1, none⟩ = some (.int .i64 k)) :
    Calls Tryd.prog 21 #[.iface 55 (.pointer (some ⟨pb, 0, none⟩)), .iface 34 (.int .i64 k)] w fun e w' => e = .returned (.bool true) ∧ w' = w := by
  have hT := @run_callFunc_extern Tryd.prog 37 _ Extern.ReflectliteType.typeOf Tryd.func37 (by kernel_rfl) (by kernel_rfl) (by kernel_rfl) (by kernel_rfl)
  have hC := @run_callFunc_extern Tryd.prog 101 _ (Extern.ReflectliteType.method fun t => do Rtype.noPackHeld "Comparable" t; pure (.bool (← typeInfo t).comparable)) Tryd.func101 (by kernel_rfl) (by kernel_rfl) (by kernel_rfl) (by kernel_rfl)
  have tT := isTypeOf
  have cT := isComparable
  have mR := isMethodComparable
  have nW := noIsW
  have uW := hasUnwrapW
  have mU := methodUnwrap
  have heq := errEq k k
  have hty := run_eql_iface_types (P := Tryd.prog) 55 34 (.pointer (some ⟨pb, 0, none⟩)) (.int .i64 k) Tryd.underlying27 (by decide) w
  go_enter Tryd.func21, Tryd.ntmps21
  go_wp2
  refine wp_loop_rounds 2 ?_
  rw [rounds_succ]
  go_wp2
  rw [rounds_succ]
  go_wp2
  go_ret
  exact ⟨by simp, rfl⟩
end Go.Proofs.YtplmmamebfpcjaaDoor
end
section
/- Errno.Error, Refusal.Error: their contracts. -/
namespace Go.Proofs.YtplmmamebfpcjaaDoor
open Go.RowKit Go.Sort Go.Joins
set_option linter.unusedVariables false
set_option maxRecDepth 100000
theorem own_one (W : World) (m : Nat) : Oc.OwnS (W.alloc (.cells #[.int .u8 (48 + (m : Int) % 10)] 5 (0, 0))) W.heap.size (.slice (some ⟨W.heap.size, 0, none⟩) 1 1) [UInt8.ofNat (48 + m % 10)] := by
  have hc : ((UInt8.ofNat (48 + m % 10)).toNat : Int) = 48 + (m : Int) % 10 := by
    rw [UInt8.toNat_ofNat']
    omega
  refine ⟨rfl, .inr ⟨W.heap.size, 1, #[.int .u8 (48 + (m : Int) % 10)], rfl, Nat.le_refl _, (by show (W.heap.push _)[W.heap.size]? = some _; simp), Nat.le_refl _, by decide, rfl, ?_⟩⟩
  show [_] = [Value.int .u8 _]
  rw [hc]
set_option maxHeartbeats 4000000 in
theorem errno_text (k : Nat) (h1 : k ≤ 9223372036854775807) (w : World) :
    Calls Tryd.prog 35 #[.int .i64 (k : Nat)] w fun e w' => ∃ s : ByteArray, e = .returned (.string s) ∧ Below w.heap.size w w' ∧ s.size ≤ 100 := by
  go_enter Tryd.func35, Tryd.ntmps35
  by_cases c0 : k = 0
  · subst c0
    go_wp2
    go_ret
    exact ⟨_, rfl, Below.refl _ _, by decide⟩
  by_cases c1 : k = 1
  · subst c1
    go_wp2
    go_ret
    exact ⟨_, rfl, Below.refl _ _, by decide⟩
  by_cases c2 : k = 10
  · subst c2
    go_wp2
    go_ret
    exact ⟨_, rfl, Below.refl _ _, by decide⟩
  by_cases c3 : k = 40
  · subst c3
    go_wp2
    go_ret
    exact ⟨_, rfl, Below.refl _ _, by decide⟩
  have d0 : ¬ ((k : Int) = 0) := by omega
  have d1 : ¬ ((k : Int) = 1) := by omega
  have d2 : ¬ ((k : Int) = 10) := by omega
  have d3 : ¬ ((k : Int) = 40) := by omega
  have e0 : ((k : Int) == 0) = false := by simp; omega
  have e1 : ((k : Int) == 1) = false := by simp; omega
  have e2 : ((k : Int) == 10) = false := by simp; omega
  have e3 : ((k : Int) == 40) = false := by simp; omega
  have e4 : decide ((k : Int) < 0) = false := by simp
  go_wp2_with fail
  try simp only [e0, e1, e2, e3, e4]
  clear e0 e1 e2 e3 e4
  go_loopw [3, 4] (fun n u wr => ∃ (m : Nat) (l : List UInt8), n = .int .i64 (m : Nat) ∧ m * 10 ^ l.length ≤ 9223372036854775807 ∧ ((l = [] ∧ u = .slice none 0 0 ∧ wr = w) ∨ (0 < l.length ∧ l.length ≤ 20 ∧ Oc.OwnS wr w.heap.size u l)) ∧ Below w.heap.size w wr) (fun n u _ => (intOf n).toNat + (match u with | .slice none _ _ => 1 | _ => 0))
  case atStart => exact ⟨k, [], rfl, by simpa using h1, .inl ⟨rfl, rfl, rfl⟩, Below.refl _ _⟩
  case round =>
    obtain ⟨m, l, rfl, hm, hl, hB⟩ := hrel
    have hm10 : m / 10 ≤ m := Nat.div_le_self _ _
    have hmb : m ≤ 9223372036854775807 := Nat.le_trans (Nat.le_mul_of_pos_right _ (Nat.pow_pos (by decide))) hm
    have hdv : ((m : Int) / 10) = ((m / 10 : Nat) : Int) := by omega
    rcases hl with ⟨rfl, rfl, rfl⟩ | ⟨hl0, hl1, hO⟩
    · by_cases hm0 : m = 0
      · subst hm0
        have hone := own_one wr 0
        have hbl := box_below wr (.cells #[.int .u8 (48 + ((0 : Nat) : Int) % 10)] 5 (0, 0))
        have e0 : (48 + ((0 : Nat) : Int) % 10) = 48 := rfl
        rw [e0] at hone hbl
        clear e0 hdv hm10
        go_wp2_with fail
        go_roundw
        case rel => exact ⟨0, _, rfl, by simp, .inr ⟨by decide, by decide, hone⟩, hbl⟩
        case measure => simp only [intOf]; decide
      · have hone := own_one wr m
        have hbl := box_below wr (.cells #[.int .u8 (48 + (m : Int) % 10)] 5 (0, 0))
        have hm1 : (m : Int) > 0 := by omega
        have HD := Lib.hid hdv
        clear hdv hm10
        go_wp2_with fail
        go_roundw
        case rel => exact ⟨m / 10, _, by rw [← HD.out], by simp only [List.length_cons, List.length_nil]; omega, .inr ⟨by simp, by simp, hone⟩, hbl⟩
        case measure => simp only [intOf]; go_num
    · obtain ⟨g, c, rfl, q1, q2, q3, q4, hbs⟩ := hO.form hl0
      have hone := own_one wr m
      have hbl := box_below wr (.cells #[.int .u8 (48 + (m : Int) % 10)] 5 (0, 0))
      by_cases hm0 : (m : Int) > 0
      · have hm1 : 0 < m := by omega
        have hl2 : l.length < 19 := by
          rcases Nat.lt_or_ge l.length 19 with h | h
          · exact h
          · have := Nat.pow_le_pow_right (show 0 < 10 by decide) h
            have h3 : 1 * 10 ^ 19 ≤ m * 10 ^ l.length := Nat.mul_le_mul hm1 this
            omega
        obtain ⟨v2, w2, hr2, ho2, hb2⟩ := Oc.run_own_bytes _ wr.heap.size _ _ l _ c hone (hbs.below hbl) (by intro h; cases h) hbl.size (by simp only [List.length_cons, List.length_nil]; omega)
        have ho3 := OwnB.low ho2 hB.size
        have hb3 := hB.trans ((hbl.trans hb2).mono hB.size)
        have hp : m / 10 * 10 ^ (l.length + 1) ≤ 9223372036854775807 := by
          rw [Nat.pow_succ, Nat.mul_comm (10 ^ l.length) 10, ← Nat.mul_assoc]
          exact Nat.le_trans (Nat.mul_le_mul_right _ (Nat.div_mul_le_self m 10)) hm
        have hv2 := ho2.form (by simp)
        obtain ⟨g2, c2, rfl, _⟩ := hv2
        have HD := Lib.hid hdv
        clear hone hO hbs ho2 hb2 hdv hm10
        go_wp2_with (at_builtin; refine wpList_append_run rfl (.tmp 28) (.tmp 29) 22 22 rfl _ _ rfl rfl _ w2 hr2 ?_; clear hr2)
        go_roundw
        case rel => exact ⟨m / 10, _, by rw [← HD.out], by simpa using hp, .inr ⟨by simp, by simp; omega, ho3⟩, hb3⟩
        case measure => simp only [intOf]; go_num
      · have hcv := run_convert_bytes_back (P := Tryd.prog) wr 22 9 5 ⟨g, 0, none⟩ c l Tryd.underlying22 Tryd.underlying5 Tryd.underlying9 (fun j hj => by
          have := hbs.cells j (.int .u8 (l[j].toNat : Int)) (by rw [Oc.cellsOf_get l j hj]; simp [List.getD, hj])
          exact this)
        go_wp2_with fail
        go_ret
        refine ⟨_, rfl, hB, ?_⟩
        rw [ByteArray.size_append]
        show 8 + l.toArray.size ≤ 100
        rw [List.size_toArray]
        omega
end Go.Proofs.YtplmmamebfpcjaaDoor
end
section
/- What the listed package-level variables hold, off the row's condition (five are listed: two of spans, three of the library). -/
namespace Go.Proofs.YtplmmamebfpcjaaDoor
open Go.ChangeShapes Go.WideShapes Go.ChangeAt Go.WideMaps Go.WideElems Go.RowKit
theorem own : ownKnob Tryd.prog.godebug = none := by kernel_rfl
theorem laidOut : laidOutB Tryd.prog = true := by kernel_rfl
theorem gRunes : Tryd.prog.globalNamed "tessera/spans.runes" = some 2 := by kernel_rfl
theorem gNothing : Tryd.prog.globalNamed "tessera/spans.nothing" = some 0 := by kernel_rfl
theorem gPow : Tryd.prog.globalNamed "internal/strconv.uint64pow10" = some 1 := by kernel_rfl
theorem tRunes : (Tryd.prog.globals[2]?).map (·.type) = some 151 := by kernel_rfl
theorem tNothing : (Tryd.prog.globals[0]?).map (·.type) = some 40 := by kernel_rfl
theorem tPow : (Tryd.prog.globals[1]?).map (·.type) = some 147 := by kernel_rfl
/-- The condition's list. -/
abbrev laids : List (String × DataW Unit) := [("math/bits.deBruijn32tab", Rows.laid_math_bits_deBruijn32tab), ("math/bits.deBruijn64tab", Rows.laid_math_bits_deBruijn64tab), ("internal/strconv.uint64pow10", Rows.laid_internal_strconv_uint64pow10), ("tessera/spans.runes", Rows.laid_tessera_spans_runes), ("tessera/spans.nothing", Rows.laid_tessera_spans_nothing)]
/-- The door's own heap meets the condition. -/
theorem door_met (os : Os) (args : Array Value) : laidMetH Tryd.prog laids ((World.doorLaid Tryd.prog 400 os).forCall (fun _ _ => 0) ⟨#[], args, []⟩).memory :=
  laidMetH_of_parts3 (fuel := 8) (laidMet_of_run' 8 (by kernel_rfl) (by kernel_rfl)) (by kernel_rfl) (by kernel_rfl)
theorem cells26 : Tryd.prog.cellsOf 40 = 2 := by kernel_rfl
theorem cellsOf21 : Tryd.prog.cellsOf 21 = 1 := by kernel_rfl
theorem und48 : Tryd.prog.underlying 151 = some (.array 2 40) := by kernel_rfl
theorem undPow : Tryd.prog.underlying 147 = some (.array 20 134) := by kernel_rfl
/-- The powers of ten, as the library's contract asks for them. -/
abbrev PT (w : World) : Prop := Lib.TabIs Tryd.prog w "internal/strconv.uint64pow10" .u64 [1, 10, 100, 1000, 10000, 100000, 1000000, 10000000, 100000000, 1000000000, 10000000000, 100000000000, 1000000000000, 10000000000000, 100000000000000, 1000000000000000, 10000000000000000, 100000000000000000, 1000000000000000000, 10000000000000000000]
set_option maxRecDepth 100000 in
/-- A span's two cells, off its datum. -/
theorem sp_trod {H : Type} {enc : TypeId × Value → H} {w : World} {base : Nat} {sp : Nat → Bool} {held : Bool} {fuel : Nat} {cs : List Value} {lo hi : Int} {p : List MemPlace}
    (h : DataW.trod enc Tryd.prog w base sp held fuel 40 cs = some (.agg [.lit (.int .i32 lo), .lit (.int .i32 hi)], p)) : cs = [.int .i32 lo, .int .i32 hi] := by
  obtain ⟨xs, n, rfl, hx, hl, hn, hel⟩ := DataW.trod_struct und26 h
  rw [cells26] at hl
  obtain ⟨c0, c1, rfl⟩ : ∃ c0 c1, cs = [c0, c1] := by
    match cs, hl with
    | [c0, c1], _ => exact ⟨c0, c1, rfl⟩
  have h0 := hel 0 fLo rfl
  have h1 := hel 1 fHi rfl
  simp only [Prod.mk.injEq, DataW.agg.injEq] at hx
  match xs, hn, hx, h0, h1 with
  | [x0, x1], _, hx, h0, h1 =>
    simp only [fLo, fHi, cellsOf21, List.drop_zero, List.take_succ_cons, List.take_zero, List.drop_succ_cons, List.getElem?_cons_zero, List.getElem?_cons_succ] at h0 h1
    obtain ⟨k0, e0, f0, _⟩ := DataW.trod_int Tryd.underlying21 h0
    obtain ⟨k1, e1, f1, _⟩ := DataW.trod_int Tryd.underlying21 h1
    subst f0; subst f1
    simp at hx e0 e1
    rw [e0, e1, ← hx.1.1, ← hx.1.2]
set_option maxRecDepth 100000 in
theorem of_laid5 {W : World} (h : laidMetH Tryd.prog laids W) : GL W ∧ PT W := by
  rw [MakeChecks.laidMetH_plain _ _ _ (by kernel_rfl)] at h
  obtain ⟨ps, ⟨_, _, _, _, _, _, _, _, _, _, ⟨_, _, _, _, _, _, _, _, _, _, ⟨g2, t2, ⟨cs2⟩, f2, p2, q2, hg2, ht2, hv2, hd2, ⟨g0, t0, cs0, f0, p0, q0, hg0, ht0, hv0, hd0, ⟨g1, t1, cs1, f1, p1, q1, hg1, ht1, hv1, hd1, _, _⟩, _⟩, _⟩, _⟩, _⟩, _, _⟩ := h
  obtain rfl := Option.some.inj (gPow.symm.trans hg2)
  obtain rfl := Option.some.inj (tPow.symm.trans ht2)
  have hP : PT W := by
    unfold PT Lib.TabIs
    rw [hv2]
    exact congrArg (fun l => some (List.toArray l)) (Lib.cells_of_tab (zs := [1, 10, 100, 1000, 10000, 100000, 1000000, 10000000, 100000000, 1000000000, 10000000000, 100000000000, 1000000000000, 10000000000000, 100000000000000, 1000000000000000, 10000000000000000, 100000000000000000, 1000000000000000000, 10000000000000000000]) undPow Tryd.underlying134 (by kernel_rfl) (by kernel_rfl) hd2)
  refine ⟨?_, hP⟩
  obtain rfl := Option.some.inj (gRunes.symm.trans hg0)
  obtain rfl := Option.some.inj (gNothing.symm.trans hg1)
  obtain rfl := Option.some.inj (tRunes.symm.trans ht0)
  obtain rfl := Option.some.inj (tNothing.symm.trans ht1)
  have e1 := sp_trod hd1
  have c1 := World.var?_cell hg1 hv1
  obtain ⟨l1⟩ := cs1
  simp only at e1
  subst e1
  obtain ⟨xs, m1, rfl, hx1, hlen, hn3, hel⟩ := DataW.trod_array und48 hd0
  have h0 := hel 0 (by decide)
  have h1 := hel 1 (by decide)
  have c0 := World.var?_cell hg0 hv0
  obtain ⟨l0⟩ := cs0
  simp only [Prod.mk.injEq, DataW.agg.injEq, Rows.laid_tessera_spans_runes] at hx1
  simp only [cells26] at h0 h1
  match xs, hn3, hx1, h0, h1 with
  | [⟨d0, p0⟩, ⟨d1, p1⟩], _, hx1, h0, h1 =>
    simp only [List.map_cons, List.map_nil, List.cons.injEq, and_true] at hx1
    obtain ⟨⟨rfl, rfl⟩, -⟩ := hx1
    simp only [List.getElem?_cons_zero, List.getElem?_cons_succ, Nat.zero_mul, Nat.one_mul, List.drop_zero] at h0 h1
    have e2 := sp_trod h0
    have e3 := sp_trod h1
    rw [show Tryd.prog.cellsOf 151 = 4 by kernel_rfl] at hlen
    simp only at hlen
    match l0, hlen, e2, e3, c0 with
    | [v0, v1, v2, v3], _, e2, e3, c0 =>
      simp at e2 e3
      obtain ⟨rfl, rfl⟩ := e2
      obtain ⟨rfl, rfl⟩ := e3
      exact ⟨⟨c1 0, c1 1⟩, ⟨c0 0, c0 1⟩, ⟨c0 2, c0 3⟩⟩
theorem of_laid {W : World} (h : laidMetH Tryd.prog laids W) : GL W := (of_laid5 h).1
end Go.Proofs.YtplmmamebfpcjaaDoor
end
section
/- Refusal.Error: its contract. -/
namespace Go.Proofs.YtplmmamebfpcjaaDoor
open Go.RowKit Go.Sort Go.Joins
set_option linter.unusedVariables false
set_option maxRecDepth 100000
theorem PT.stays {w w' : World} (h : PT w) (hb : Below w.heap.size w w') : PT w' := tab_stays gPow h hb (Nat.le_refl _)
theorem Rf.c0 {w : World} {N : Nat} {e : Er} (h : Rf w N e) : w.cell? ⟨N, 0, none⟩ = some (.int .i64 (e.1 : Nat)) := (cell_of_block h 0).trans rfl
theorem Rf.c1 {w : World} {N : Nat} {e : Er} (h : Rf w N e) : w.cell? ⟨N, 1, none⟩ = some (.int .i64 (e.2 : Nat)) := (cell_of_block h 1).trans rfl
set_option maxHeartbeats 4000000 in
theorem error_any (w : World) (N : Nat) (r : Er) (hR : Rf w N r) (h1 : r.1 ≤ 9223372036854775807) (h2 : r.2 ≤ 9223372036854775807) (hP : PT w) :
    Calls Tryd.prog 18 #[.pointer (some ⟨N, 0, none⟩)] w fun e w' => ∃ v, e = .returned v ∧ Below w.heap.size w w' ∧ ∃ s : ByteArray, v = .string s ∧ s.size ≠ 0 := by
  have HE := fun wx (hb : Below w.heap.size w wx) => (errno_text r.2 h2 wx).mono (R' := fun e w' => ∃ v, e = .returned v ∧ Below wx.heap.size wx w' ∧ ∃ s : ByteArray, v = .string s ∧ s.size ≤ 100) (by rintro e w' ⟨s, q1, q2, q3⟩; exact ⟨_, q1, q2, s, rfl, q3⟩)
  have HI := fun wx (hb : Below w.heap.size w wx) => (Tryd.strconv_Itoa (r.1 : Nat) (by omega) (by omega) wx (hP.stays hb)).mono (R' := fun e w' => ∃ v, e = .returned v ∧ Below wx.heap.size wx w' ∧ ∃ s : ByteArray, v = .string s ∧ s.size ≤ 100) (by rintro e w' ⟨q1, k, os, q2⟩; exact ⟨_, q1, by rw [q2]; exact Lib.below_grow _ wx (Nat.le_refl _) k os, _, rfl, by have := Lib.itoa_length_le ((r.1 : Nat) : Int) (by omega) (by omega); show (Lib.itoa _).toArray.size ≤ 100; rw [List.size_toArray]; omega⟩)
  go_enter Tryd.func18, Tryd.ntmps18
  go_wp2_with fail
  refine wp_region_mono 13 [3, 4, 5, 6, 7, 8, 9, 10, 11, 12, 13, 14, 15] [qR (.pointer (some ⟨N, 0, none⟩)),
      qR (.pointer (some ⟨N, 0, none⟩)),
      qR (.pointer (some ⟨N, 1, none⟩)),
      qR (.int .i64 (r.2 : Nat)),
      (fun u _ => ∃ s : ByteArray, u = .string s ∧ s.size ≤ 100),
      (fun u _ => ∃ s : ByteArray, u = .string s ∧ s.size ≠ 0 ∧ s.size ≤ 200),
      (fun u _ => ∃ s : ByteArray, u = .string s ∧ s.size ≠ 0 ∧ s.size ≤ 300),
      qR (.pointer (some ⟨N, 0, none⟩)),
      qR (.pointer (some ⟨N, 0, none⟩)),
      qR (.pointer (some ⟨N, 0, none⟩)),
      qR (.int .i64 (r.1 : Nat)),
      (fun u _ => ∃ s : ByteArray, u = .string s ∧ s.size ≤ 100),
      (fun u _ => ∃ s : ByteArray, u = .string s ∧ s.size ≠ 0 ∧ s.size ≤ 400)] (by kernel_rfl) (by kernel_rfl) rfl rfl ?stab ?steps ?fin
  case stab =>
    intro φ hφ
    simp only [List.mem_cons, List.not_mem_nil, or_false] at hφ
    rcases hφ with rfl | rfl | rfl | rfl | rfl | rfl | rfl | rfl | rfl | rfl | rfl | rfl | rfl
    · exact fun _ _ _ _ h => h
    · exact fun _ _ _ _ h => h
    · exact fun _ _ _ _ h => h
    · exact fun _ _ _ _ h => h
    · exact fun _ _ _ _ h => h
    · exact fun _ _ _ _ h => h
    · exact fun _ _ _ _ h => h
    · exact fun _ _ _ _ h => h
    · exact fun _ _ _ _ h => h
    · exact fun _ _ _ _ h => h
    · exact fun _ _ _ _ h => h
    · exact fun _ _ _ _ h => h
    · exact fun _ _ _ _ h => h
  case steps =>
    have hBx : ∀ wx, Below w.drew.heap.size w.drew wx → Below w.heap.size w wx := fun wx hb => ⟨hb.os, hb.tape, hb.output, hb.size, hb.block⟩
    refine ⟨?_, ?_, ?_, ?_, ?_, ?_, ?_, ?_, ?_, ?_, ?_, ?_, ?_, trivial⟩
    · intro a' he wx hb hd
      have e0 : a'.eval (.tmp 0) = .pointer (some ⟨N, 0, none⟩) := he.get rfl
      exact mStep_read rfl (by simp [execOp, e0]) rfl
    · intro a' he wx hb hd
      have e0 : a'.eval (.tmp 3) = .pointer (some ⟨N, 0, none⟩) := hd 0 rfl _ _ rfl rfl
      refine mStep_read rfl ?_ rfl
      simp only [execOp, e0]
      go_simp
    · intro a' he wx hb hd
      have e0 : a'.eval (.tmp 4) = .pointer (some ⟨N, 0, none⟩) := hd 1 rfl _ _ rfl rfl
      refine mStep_read rfl ?_ rfl
      simp only [execOp, e0]
      go_simp
    · intro a' he wx hb hd
      have e0 : a'.eval (.tmp 5) = .pointer (some ⟨N, 1, none⟩) := hd 2 rfl _ _ rfl rfl
      have c := (hR.below (hBx wx hb) hR.lt).c1
      refine mStep_read rfl ?_ rfl
      simp only [execOp, e0]
      go_simp
    · intro a' he wx hb hd
      have e0 : a'.eval (.tmp 6) = .int .i64 (r.2 : Nat) := hd 3 rfl _ _ rfl rfl
      exact mStep_call rfl (by simp [execOp, e0, resolve]; rfl) (HE wx (hBx wx hb))
    · intro a' he wx hb hd
      have e0 := hd 4 rfl _ _ rfl rfl
      obtain ⟨s, e0, hz⟩ := e0
      refine mStep_read rfl (v := .string (⟨#[110, 111, 32, 109, 111, 100, 101, 108, 39, 115, 32, 102, 105, 108, 101, 58, 32]⟩ ++ s)) ?_ ⟨_, rfl, ?_⟩
      · simp only [execOp, e0]
        go_simp
        omega
      · rw [ByteArray.size_append]
        show 17 + s.size ≠ 0 ∧ 17 + s.size ≤ 200
        omega
    · intro a' he wx hb hd
      have e0 := hd 5 rfl _ _ rfl rfl
      obtain ⟨s, e0, hs, hz⟩ := e0
      refine mStep_read rfl (v := .string (s ++ ⟨#[44, 32, 97, 116, 32, 98, 121, 116, 101, 32]⟩)) ?_ ⟨_, rfl, ?_⟩
      · simp only [execOp, e0]
        go_simp
        omega
      · rw [ByteArray.size_append]
        show s.size + 10 ≠ 0 ∧ s.size + 10 ≤ 300
        omega
    · intro a' he wx hb hd
      have e0 : a'.eval (.tmp 0) = .pointer (some ⟨N, 0, none⟩) := he.get rfl
      exact mStep_read rfl (by simp [execOp, e0]) rfl
    · intro a' he wx hb hd
      have e0 : a'.eval (.tmp 10) = .pointer (some ⟨N, 0, none⟩) := hd 7 rfl _ _ rfl rfl
      refine mStep_read rfl ?_ rfl
      simp only [execOp, e0]
      go_simp
    · intro a' he wx hb hd
      have e0 : a'.eval (.tmp 11) = .pointer (some ⟨N, 0, none⟩) := hd 8 rfl _ _ rfl rfl
      refine mStep_read rfl ?_ rfl
      simp only [execOp, e0]
      go_simp
    · intro a' he wx hb hd
      have e0 : a'.eval (.tmp 12) = .pointer (some ⟨N, 0, none⟩) := hd 9 rfl _ _ rfl rfl
      have c := (hR.below (hBx wx hb) hR.lt).c0
      refine mStep_read rfl ?_ rfl
      simp only [execOp, e0]
      go_simp
    · intro a' he wx hb hd
      have e0 : a'.eval (.tmp 13) = .int .i64 (r.1 : Nat) := hd 10 rfl _ _ rfl rfl
      exact mStep_call rfl (by simp [execOp, e0, resolve]; rfl) (HI wx (hBx wx hb))
    · intro a' he wx hb hd
      have e0 := hd 6 rfl _ _ rfl rfl
      have e1 := hd 11 rfl _ _ rfl rfl
      obtain ⟨s, e0, hs, hz⟩ := e0
      obtain ⟨t, e1, hy⟩ := e1
      refine mStep_read rfl (v := .string (s ++ t)) ?_ ⟨_, rfl, ?_⟩
      · simp only [execOp, e0, e1]
        go_simp
        omega
      · rw [ByteArray.size_append]
        omega
  case fin =>
    rintro wx hb _ rfl _ rfl _ rfl _ rfl u7 p7 u8 p8 u9 p9 _ rfl _ rfl _ rfl _ rfl u14 p14 u15 p15
    simp only [finV, Act.put, List.setIfInBounds_toArray, List.set_cons_succ, List.set_cons_zero, List.drop_succ_cons, List.drop_zero]
    have hbd : Below w.heap.size w wx := ⟨hb.os, hb.tape, hb.output, hb.size, hb.block⟩
    obtain ⟨s, rfl, hs, hz⟩ := p15
    clear p7 p8 p9 p14 HE HI
    go_wp2_with fail
    go_ret
    exact ⟨_, rfl, hbd, _, rfl, hs⟩
end Go.Proofs.YtplmmamebfpcjaaDoor
end
