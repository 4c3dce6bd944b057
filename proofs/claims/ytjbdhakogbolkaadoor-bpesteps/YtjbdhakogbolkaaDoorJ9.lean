import Derived.Test.YtjbdhakogbolkaaDoorJ8
import Derived.WalkKit
section
/- tesserakeep.Large, Of: their contracts. -/
namespace Go.Proofs.YtjbdhakogbolkaaDoor
open Go.RowKit Go.Sort Go.Joins
set_option linter.unusedVariables false
/-- A block, by a name that the walk doesn't open. -/
def Blk (w : World) (g : Nat) (o : Obj) : Prop := w.heap[g]? = some o
theorem Blk.lt {w : World} {g : Nat} {o : Obj} (h : Blk w g o) : g < w.heap.size := (Array.getElem?_eq_some_iff.1 h).1
theorem Blk.below {w w' : World} {g B : Nat} {o : Obj} (h : Blk w g o) (hb : Below B w w') (hg : g < B) : Blk w' g o := (hb.block g hg).trans h
theorem Blk.up {w w' : World} {g : Nat} {o : Obj} (h : Blk w g o) (hb : Below w.heap.size w w') : Blk w' g o := h.below hb h.lt
theorem Blk.new (w : World) (o : Obj) : Blk (w.alloc o) w.heap.size o := heap_alloc_new _ _
theorem Blk.cell {w : World} {g : Nat} {cs : Array Value} {t : TypeId} {fr : Nat × Nat} (h : Blk w g (.cells cs t fr)) (i : Nat) : w.cell? ⟨g, i, none⟩ = cs[i]? := cell_of_block h i
theorem Blk.free {w : World} {g : Nat} {cs : Array Value} {t : TypeId} (h : Blk w g (.cells cs t (0, 0))) (i : Nat) : w.frozen? ⟨g, i, none⟩ = false := unfrozen_of_block h i
theorem below_drawn (w : World) (n : Nat) : Below w.heap.size w (w.drewN n) := below_drewN (Below.refl _ _) n
def largeB (n : Nat) : Bool := decide (300 < n) && decide (n ≤ 4096)
set_option maxRecDepth 100000 in
set_option maxHeartbeats 1000000 in
theorem large_any (aw am a b c : Option Addr) (nw cw nm cm na ca nb cb nc cc : Nat) (w : World) :
    Calls Tryd.prog 25 #[.agg #[.slice aw nw cw, .slice am nm cm, .slice a na ca, .slice b nb cb, .slice c nc cc]] w fun e w' => e = .returned (.bool (largeB nm)) ∧ Below w.heap.size w w' := by
  have hD := DBox.new w (.slice aw nw cw) (.slice am nm cm) (.slice a na ca) (.slice b nb cb) (.slice c nc cc)
  have hb := box_below w (.cells #[.slice aw nw cw, .slice am nm cm, .slice a na ca, .slice b nb cb, .slice c nc cc] 30)
  have x1 := hD.c1
  clear hD
  unfold largeB
  by_cases h1 : 300 < nm
  · have g1 : decide ((300 : Int) < (nm : Int)) = true := decide_eq_true (by omega)
    have e1 : decide (300 < nm) = true := decide_eq_true h1
    obtain ⟨B, hB⟩ : ∃ B, B = decide (nm ≤ 4096) := ⟨_, rfl⟩
    have g2 : decide ((nm : Int) ≤ 4096) = B := by rw [hB]; congr 1; exact propext (by omega)
    rw [e1, ← hB]
    clear hB e1
    go_enter Tryd.func25, Tryd.ntmps25
    go_wp2_with fail
    go_ret
    exact ⟨by simp, hb⟩
  · have g1 : decide ((300 : Int) < (nm : Int)) = false := decide_eq_false (by omega)
    have e1 : decide (300 < nm) = false := decide_eq_false h1
    rw [e1]
    clear e1
    go_enter Tryd.func25, Tryd.ntmps25
    go_wp2_with fail
    go_ret
    exact ⟨by simp, hb⟩
def upB (ws : List ByteArray) (ms : List Mg) (A B C : List Sp) : Bool := !largeB ms.length && decide ((checkD ws ms A B C).1 = 0)
theorem firstBad_pair {f : Nat → Nat} {n : Nat} (h : (firstBad f n).1 = 0) : firstBad f n = (0, 0) := by
  rcases firstBad_cases f n with ⟨_, h2⟩ | ⟨k, _, _, h3, h4⟩
  · exact h2
  · rw [h4] at h; exact absurd h h3
theorem checkD_nil {ws : List ByteArray} {ms : List Mg} {A B C : List Sp} (h : (checkD ws ms A B C).1 = 0) : checkD ws ms A B C = (0, 0, 0) := by
  unfold checkD at h ⊢
  by_cases h1 : 4096 < ms.length
  · rw [if_pos h1] at h; cases h
  · rw [if_neg h1] at h ⊢
    by_cases h2 : ws.length ≠ ms.length
    · rw [if_pos h2] at h; cases h
    · rw [if_neg h2] at h ⊢
      by_cases h3 : (checkA A B C).1 ≠ 0
      · rw [if_pos h3] at h; exact absurd h h3
      · rw [if_neg h3] at h ⊢
        by_cases h4 : (firstBad (badW ws) ws.length).1 ≠ 0
        · rw [if_pos h4] at h; exact absurd h h4
        · rw [if_neg h4] at h ⊢
          by_cases h5 : (firstBad (badM ws ms) ms.length).1 ≠ 0
          · rw [if_pos h5] at h; exact absurd h h5
          · rw [if_neg h5]
theorem fEq_zero : ∀ W, (binOp BinOp.neq 68 (.agg #[.int .i64 0, .int .i64 0, .int .i64 0]) (.agg #[.int .i64 0, .int .i64 0, .int .i64 0])).run Tryd.prog W = .ok (.bool false) W := fun W => by kernel_rfl
/-- What Of leaves. -/
def OfP (w : World) (ws : List ByteArray) (ms : List Mg) (A B C : List Sp) (U : Bool) (e : Ending) (w' : World) : Prop :=
  ∃ p, e = .returned (.tuple #[.pointer p, .bool U, .bool true]) ∧ (U = true → ∃ g, p = some ⟨g, 0, none⟩ ∧ ModelAt w' w.heap.size g ws ms A B C) ∧ (U = false → p = none) ∧ Below w.heap.size w w'
set_option maxRecDepth 100000 in
set_option maxHeartbeats 4000000 in
theorem keepOf_any (aw am a b c : Option Addr) (cw cm ca cb cc : Nat) (ws : List ByteArray) (ms : List Mg) (A B C : List Sp) (w : World) (hwf : MWf ms) (hn : ws.length ≤ 4611686018427387) (hW : WSP w aw ws) (hM : MSP w am ms) (hA : Lst w a ca A) (hB : Lst w b cb B) (hC : Lst w c cc C) (hG : GL w) :
    Calls Tryd.prog 9 #[.agg #[.slice aw ws.length cw, .slice am ms.length cm, .slice a A.length ca, .slice b B.length cb, .slice c C.length cc]] w fun e w' => OfP w ws ms A B C (upB ws ms A B C) e w' := by
  have hD0 := DBox.new w (.slice aw ws.length cw) (.slice am ms.length cm) (.slice a A.length ca) (.slice b B.length cb) (.slice c C.length cc)
  have hb0 := box_below w (.cells #[.slice aw ws.length cw, .slice am ms.length cm, .slice a A.length ca, .slice b B.length cb, .slice c C.length cc] 30)
  have HW0 : Hid (WSP w aw ws) := hW
  have HM0 : Hid (MSP w am ms) := hM
  have HA0 : Hid (Lst w a ca A) := hA
  have HB0 : Hid (Lst w b cb B) := hB
  have HC0 : Hid (Lst w c cc C) := hC
  have HG0 : Hid (GL w) := hG
  have hL := fun wx => large_any aw am a b c ws.length cw ms.length cm A.length ca B.length cb C.length cc wx
  have hN := fun wx h1 h2 h3 h4 h5 h6 => mnew_any aw am a b c cw cm ca cb cc ws ms A B C wx hwf hn h1 h2 h3 h4 h5 h6
  have hK := fun wx h1 h2 h3 h4 h5 => refCheck5_any aw am a b c cw cm ca cb cc ws ms A B C wx hwf hn h1 h2 h3 h4 h5
  have hfe := fEq_zero
  clear hW hM hA hB hC hG
  have x0 := hD0.c0
  have x1 := hD0.c1
  have x2 := hD0.c2
  have x3 := hD0.c3
  have x4 := hD0.c4
  unfold upB
  obtain ⟨Lb, hLb⟩ : ∃ Lb, Lb = largeB ms.length := ⟨_, rfl⟩
  rw [← hLb] at hL ⊢
  have hnil := checkD_nil (ws := ws) (ms := ms) (A := A) (B := B) (C := C)
  obtain ⟨⟨y, li, ro⟩, hy⟩ : ∃ q, q = checkD ws ms A B C := ⟨_, rfl⟩
  rw [← hy] at hN hK hnil ⊢
  have HNIL : Hid (y = 0 → (y, li, ro) = (0, 0, 0)) := hnil
  unfold f3V at hN hK
  clear hLb hy hnil
  go_enter Tryd.func9, Tryd.ntmps9
  go_wp2_with fail
  obtain ⟨Y, hY⟩ : ∃ Y, Y = w.alloc (.cells #[.slice aw ws.length cw, .slice am ms.length cm, .slice a A.length ca, .slice b B.length cb, .slice c C.length cc] 30) := ⟨_, rfl⟩
  rw [← hY] at hD0 hb0 ⊢
  clear hY x0 x1 x2 x3 x4
  obtain ⟨z, hz⟩ : ∃ z, z = w.heap.size := ⟨_, rfl⟩
  rw [← hz] at hD0 hb0 ⊢
  have HZ : Hid (z = w.heap.size) := hz
  clear hz
  have hzY := hD0.lt
  refine (hL Y).mono ?_
  rintro e w1 ⟨rfl, hb1⟩
  have hD1 := hD0.below hb1 hzY
  have hB1 := hb0.trans (hb1.mono (Nat.le_of_lt hzY))
  have hz1 := hD1.lt
  clear hL hD0 hb0 hb1 hzY
  cases Lb with
  | true =>
    go_wp2_with fail
    exact bodyPost_ret (v := .tuple #[.pointer none, .bool false, .bool true]) (by simp [results, Tryd.results9, go_sem]) rfl ⟨none, rfl, (fun e => by cases e), fun _ => rfl, (by rw [← HZ.out]; exact hB1)⟩
  | false =>
    have x0 := hD1.c0
    have x1 := hD1.c1
    have x2 := hD1.c2
    have x3 := hD1.c3
    have x4 := hD1.c4
    have hB1' : Below w.heap.size w w1 := by rw [← HZ.out]; exact hB1
    go_wp2_with fail
    refine (hN w1 (HW0.out.below hB1') (HM0.out.below hB1') (HA0.out.below hB1') (HB0.out.below hB1') (HC0.out.below hB1') (HG0.out.below hB1')).mono ?_
    rintro e w2 ⟨p, rfl, hp1, hp2, hb2⟩
    simp only []
    have hD2 := hD1.below hb2 hz1
    have hB2 := hB1.trans (hb2.mono (Nat.le_of_lt hz1))
    have hz2 := hD2.lt
    have hsz2 := hb2.size
    have HP1 : Hid (y = 0 → ∃ g, p = some ⟨g, 0, none⟩ ∧ ModelAt w2 z g ws ms A B C) := fun h => by
      obtain ⟨g, h1, h2⟩ := hp1 h
      exact ⟨g, h1, h2.low (by omega)⟩
    have HP2 : Hid (y ≠ 0 → p = none) := hp2
    clear hN hp1 hp2 hb2 hD1 hB1 hB1' x0 x1 x2 x3 x4
    have hbn := box_below w2 (.cells #[.int .i64 (y : Nat), .int .i64 (li : Nat), .int .i64 (ro : Nat)] 68)
    have hF3 := Blk.new w2 (.cells #[.int .i64 (y : Nat), .int .i64 (li : Nat), .int .i64 (ro : Nat)] 68)
    have hD3 := hD2.below hbn hz2
    have hB3 := hB2.trans (hbn.mono (Nat.le_of_lt hz2))
    have HP3 : Hid (y = 0 → ∃ g, p = some ⟨g, 0, none⟩ ∧ ModelAt (w2.alloc (.cells #[.int .i64 (y : Nat), .int .i64 (li : Nat), .int .i64 (ro : Nat)] 68)) z g ws ms A B C) := fun h => by
      obtain ⟨g, h1, h2⟩ := HP1.out h
      exact ⟨g, h1, h2.below hbn⟩
    have x0 := hD3.c0
    have x1 := hD3.c1
    have x2 := hD3.c2
    have x3 := hD3.c3
    have x4 := hD3.c4
    clear hbn HP1 hD2 hB2
    go_wp2_with fail
    obtain ⟨W3, hW3⟩ : ∃ W3, W3 = w2.alloc (.cells #[.int .i64 (y : Nat), .int .i64 (li : Nat), .int .i64 (ro : Nat)] 68) := ⟨_, rfl⟩
    rw [← hW3] at hF3 hD3 hB3 HP3 ⊢
    clear hW3 x0 x1 x2 x3 x4
    obtain ⟨zf, hzf⟩ : ∃ zf, zf = w2.heap.size := ⟨_, rfl⟩
    rw [← hzf] at hF3 ⊢
    clear hzf
    have hB3' : Below w.heap.size w W3 := by rw [← HZ.out]; exact hB3
    have hz3 := hD3.lt
    refine (hK W3 (HW0.out.below hB3') (HM0.out.below hB3') (HA0.out.below hB3') (HB0.out.below hB3') (HC0.out.below hB3')).mono ?_
    rintro e w4 ⟨rfl, hb4⟩
    simp only []
    have hbn := box_below w4 (.cells #[.int .i64 (y : Nat), .int .i64 (li : Nat), .int .i64 (ro : Nat)] 72)
    have hF5 := (hF3.up hb4).up hbn
    have hC5 := Blk.new w4 (.cells #[.int .i64 (y : Nat), .int .i64 (li : Nat), .int .i64 (ro : Nat)] 72)
    have hB4 := hB3.trans (hb4.mono (Nat.le_of_lt hz3))
    have hB5 := hB4.trans (hbn.mono (Nat.le_trans (Nat.le_of_lt hz3) hb4.size))
    have HP5 : Hid (y = 0 → ∃ g, p = some ⟨g, 0, none⟩ ∧ ModelAt (w4.alloc (.cells #[.int .i64 (y : Nat), .int .i64 (li : Nat), .int .i64 (ro : Nat)] 72)) z g ws ms A B C) := fun h => by
      obtain ⟨g, h1, h2⟩ := HP3.out h
      exact ⟨g, h1, (h2.below hb4).below hbn⟩
    have f0 := hF5.cell 0
    have f1 := hF5.cell 1
    have f2 := hF5.cell 2
    have c0 := hC5.cell 0
    have c1 := hC5.cell 1
    have c2 := hC5.cell 2
    clear hK hF3 hD3 hB3 hB3' hb4 hbn hB4 HP3
    by_cases h0 : y = 0
    · obtain ⟨g, rfl, hMd⟩ := HP5.out h0
      have hq := HNIL.out h0
      simp only [Prod.mk.injEq] at hq
      obtain ⟨rfl, rfl, rfl⟩ := hq
      have HMd : Hid (ModelAt (w4.alloc (.cells #[.int .i64 ((0 : Nat) : Int), .int .i64 ((0 : Nat) : Int), .int .i64 ((0 : Nat) : Int)] 72)) z g ws ms A B C) := hMd
      rw [show ((0 : Nat) : Int) = 0 from rfl] at f0 f1 f2 c0 c1 c2 HMd hB5 ⊢
      clear HP5 HP2 HNIL hF5 hC5 hMd
      go_wp2_with fail
      exact bodyPost_ret (v := .tuple #[.pointer (some ⟨g, 0, none⟩), .bool true, .bool true]) (by simp [results, Tryd.results9, go_sem]) rfl ⟨some ⟨g, 0, none⟩, rfl, fun _ => ⟨g, rfl, (by rw [← HZ.out]; exact HMd.out)⟩, (fun e => by cases e), (by rw [← HZ.out]; exact hB5)⟩
    · obtain rfl := HP2.out h0
      have hd : decide (y = 0) = false := decide_eq_false h0
      have hne : ((y : Int) == 0) = false := by simp; omega
      have q1 : ((y : Int) == (y : Int)) = true := by simp
      have q2 : ((li : Int) == (li : Int)) = true := by simp
      have q3 : ((ro : Int) == (ro : Int)) = true := by simp
      have HD : Hid (decide (y = 0) = false) := hd
      clear HP5 HP2 HNIL hF5 hC5
      go_wp2_with fail
      go_quiet (fail)
      go_wp2_with fail
      refine bodyPost_ret (v := .tuple #[.pointer none, .bool false, .bool true]) (by simp [results, Tryd.results9, go_sem]) rfl ?_
      have hU : ∀ (w' : World), Below z w w' → OfP w ws ms A B C false (.returned (.tuple #[.pointer none, .bool false, .bool true])) w' := fun w' h => ⟨none, rfl, (fun e => by cases e), fun _ => rfl, (by rw [← HZ.out]; exact h)⟩
      first
        | exact hU _ (below_drewN hB5 _)
        | (rw [HD.out]; exact hU _ (below_drewN hB5 _))
end Go.Proofs.YtjbdhakogbolkaaDoor
end
section
/- model.Model.Merge, tesseraref5.Merge; Longest, Table: their contracts; what a model answers. -/
namespace Go.Proofs.YtjbdhakogbolkaaDoor
open Go.RowKit Go.Sort Go.Joins Go.Maps Go.WideMaps
set_option linter.unusedVariables false
/-- What Merge answers. -/
def mrV (o : Option (Nat × Int)) : Value := .tuple #[.int .i64 ((o.map fun p => (p.1 : Int)).getD 0), .int .i64 ((o.map (·.2)).getD 0), .bool o.isSome]
def mergeM (ms : List Mg) (l r : Int) : Option (Nat × Int) := (rankM ms l r).bind fun k => (ms[k]?).map fun x => (k, x.i)
theorem rankM_get {ms : List Mg} {l r : Int} {k : Nat} (h : rankM ms l r = some k) : ∃ x, ms[k]? = some x ∧ pairB x l r = true ∧ ∀ (j : Nat) (y : Mg), j < k → ms[j]? = some y → pairB y l r = false := by
  unfold rankM at h
  obtain ⟨hk, h1, h2⟩ := List.findIdx?_eq_some_iff_getElem.1 h
  refine ⟨ms[k], List.getElem?_eq_getElem hk, h1, fun j y hj hy => ?_⟩
  obtain ⟨hjl, rfl⟩ := List.getElem?_eq_some_iff.1 hy
  simpa using h2 j hj
theorem rankM_none {ms : List Mg} {l r : Int} (h : rankM ms l r = none) : ∀ (j : Nat) (y : Mg), ms[j]? = some y → pairB y l r = false := by
  unfold rankM at h
  intro j y hy
  have := List.findIdx?_eq_none_iff.1 h y (List.mem_of_getElem? hy)
  simpa using this
theorem rankM_some {ms : List Mg} {l r : Int} {k : Nat} {x : Mg} (hx : ms[k]? = some x) (hp : pairB x l r = true) (hb : ∀ (j : Nat) (y : Mg), j < k → ms[j]? = some y → pairB y l r = false) : rankM ms l r = some k := by
  unfold rankM
  rw [List.findIdx?_eq_some_iff_getElem]
  obtain ⟨hk, rfl⟩ := List.getElem?_eq_some_iff.1 hx
  refine ⟨hk, hp, fun j hj => ?_⟩
  have := hb j _ hj (List.getElem?_eq_getElem (by omega))
  simp [this]
theorem rankM_nil {ms : List Mg} {l r : Int} (h : ∀ (j : Nat) (y : Mg), ms[j]? = some y → pairB y l r = false) : rankM ms l r = none := by
  unfold rankM
  rw [List.findIdx?_eq_none_iff]
  intro y hy
  obtain ⟨j, hj⟩ := List.mem_iff_getElem?.1 hy
  simpa using h j y hj
theorem ModelAt.word {w : World} {lo g : Nat} {ws : List ByteArray} {ms : List Mg} {A B C : List Sp} (h : ModelAt w lo g ws ms A B C) : ∃ a0 c0, w.cell? ⟨g, 0, none⟩ = some (.slice a0 ws.length c0) ∧ WSP w a0 ws := by
  obtain ⟨a0, c0, a1, c1, a2, c2, a3, c3, a4, c4, gt, gr, h1, h2, h3, h4, h5, h6⟩ := h
  exact ⟨a0, c0, cell_of_block h3 0, h4.words.row.sp⟩
theorem mword_any (g : Nat) (lo : Nat) (ws : List ByteArray) (ms : List Mg) (A B C : List Sp) (id : Int) (w : World) (hn : ws.length ≤ 4611686018427387904) (h : ModelAt w lo g ws ms A B C) :
    Calls Tryd.prog 23 #[.pointer (some ⟨g, 0, none⟩), .int .i64 id] w fun e w' => e = .returned (wdV (wordM ws id)) ∧ Below w.heap.size w w' := by
  obtain ⟨a0, c0, h1, h2⟩ := h.word
  exact word_any g c0 a0 ws id w hn h1 h2
theorem msize_any (g : Nat) (lo : Nat) (ws : List ByteArray) (ms : List Mg) (A B C : List Sp) (w : World) (hn : ws.length ≤ 4611686018427387904) (h : ModelAt w lo g ws ms A B C) :
    Calls Tryd.prog 40 #[.pointer (some ⟨g, 0, none⟩)] w fun e w' => e = .returned (.int .i64 (256 + (ws.length : Int))) ∧ w' = w := by
  obtain ⟨a0, c0, h1, h2⟩ := h.word
  exact size_any g ws.length c0 a0 w hn h1
set_option maxRecDepth 100000 in
set_option maxHeartbeats 1000000 in
theorem merge_any (g lo : Nat) (ws : List ByteArray) (ms : List Mg) (A B C : List Sp) (l r : Int) (w : World) (hl : W64 l) (hr : W64 r) (h : ModelAt w lo g ws ms A B C) :
    Calls Tryd.prog 24 #[.pointer (some ⟨g, 0, none⟩), .int .i64 l, .int .i64 r] w fun e w' => e = .returned (mrV (mergeM ms l r)) ∧ Below w.heap.size w w' := by
  obtain ⟨a0, c0, a1, c1, a2, c2, a3, c3, a4, c4, gt, gr, h1, h2, h3, h4, h5, h6⟩ := h
  have x1 := cell_of_block h3 1
  have x6 := cell_of_block h3 6
  have hkey := keyP hl hr
  unfold pairV at hkey
  have hM := h4.merges.row.sp
  have hmc := h4.merges.le
  have HM6 : Hid (MapI w 99 pairV gr ms.length (rankF ms)) := h6
  have hk2 : keyOf Tryd.prog 99 (pairV (l, r)) = some (.string (keyBytes [.int .i64 l, .int .i64 r])) := hkey
  have HK2 : Hid (keyOf Tryd.prog 99 (pairV (l, r)) = some (.string (keyBytes [.int .i64 l, .int .i64 r]))) := hk2
  clear h1 h2 h3 h4 h5 h6 hkey hk2
  cases hq : rankM ms l r with
  | none =>
    have hF : rankF ms (l, r) = none := by unfold rankF; simp [hq]
    have HR : Hid (mergeM ms l r = none) := (by unfold mergeM; rw [hq]; rfl : mergeM ms l r = none)
    have HF : Hid (rankF ms (l, r) = none) := hF
    rw [HR.out]
    clear hq hF hM
    go_enter Tryd.func24, Tryd.ntmps24
    go_wp2_with (first | (at_lookup; refine wpList_look _ rfl _ _ 94 rfl lawP Tryd.underlying94 rfl HM6.out (l, r) _ rfl HK2.out ?_; simp only [HF.out, Option.getD_none, Option.isSome_none]) | fail)
    exact bodyPost_ret (v := .tuple #[.int .i64 0, .int .i64 0, .bool false]) (by simp [results, Tryd.results24, go_sem]) rfl ⟨rfl, Below.refl _ _⟩
  | some k =>
    obtain ⟨x, hx, hp, hb⟩ := rankM_get hq
    have hF : rankF ms (l, r) = some (k : Int) := by unfold rankF; simp [hq]
    have HR : Hid (mergeM ms l r = some (k, x.i)) := (by unfold mergeM; rw [hq]; simp [hx] : mergeM ms l r = some (k, x.i))
    have HF : Hid (rankF ms (l, r) = some (k : Int)) := hF
    obtain ⟨b, off, rfl, hc⟩ := hM.at_ hx
    have hkl : k < ms.length := (List.getElem?_eq_some_iff.1 hx).1
    obtain ⟨-, -, hc2⟩ := hc
    rw [HR.out]
    clear hq hF hM hx hp hb
    go_enter Tryd.func24, Tryd.ntmps24
    go_wp2_with (first | (at_lookup; refine wpList_look _ rfl _ _ 94 rfl lawP Tryd.underlying94 rfl HM6.out (l, r) _ rfl HK2.out ?_; simp only [HF.out, Option.getD_some, Option.isSome_some]) | fail)
    go_quiet (fail)
    go_wp2_with fail
    exact bodyPost_ret (v := .tuple #[.int .i64 (k : Nat), .int .i64 x.i, .bool true]) (by simp [results, Tryd.results24, go_sem]) rfl ⟨rfl, below_drawn _ _⟩
end Go.Proofs.YtjbdhakogbolkaaDoor
end
section
/- A chain of numbers in plain mathematics: who stands behind, ahead; what cutting out changes. -/
namespace Go.Proofs.YtjbdhakogbolkaaDoor.CH
set_option linter.unusedVariables false
/-- The first one from s on, among d numbers; else s + d. -/
def upG (inn : Nat → Bool) : Nat → Nat → Nat
  | 0, s => s
  | d + 1, s => if inn s then s else upG inn d (s + 1)
/-- The last one below k; else n. -/
def dnG (inn : Nat → Bool) (n : Nat) : Nat → Nat
  | 0 => n
  | k + 1 => if inn k then k else dnG inn n k
/-- Who stands behind i; n is the knot. -/
def nxF (inn : Nat → Bool) (n i : Nat) : Nat := if i = n then upG inn n 0 else upG inn (n - (i + 1)) (i + 1)
/-- i is cut out. -/
def cutP (inn : Nat → Bool) (k : Nat) : Nat → Bool := fun m => if m = k then false else inn m
theorem up_spec (inn : Nat → Bool) : ∀ d s, s ≤ upG inn d s ∧ upG inn d s ≤ s + d ∧ (upG inn d s < s + d → inn (upG inn d s) = true) ∧ ∀ m, s ≤ m → m < upG inn d s → inn m = false
  | 0, s => ⟨Nat.le_refl _, Nat.le_refl _, fun h => absurd h (by simp [upG]), fun m h1 h2 => by simp [upG] at h2; omega⟩
  | d + 1, s => by
    unfold upG
    by_cases h : inn s = true
    · rw [if_pos h]
      exact ⟨Nat.le_refl _, by omega, fun _ => h, fun m h1 h2 => by omega⟩
    · rw [if_neg h]
      obtain ⟨h1, h2, h3, h4⟩ := up_spec inn d (s + 1)
      refine ⟨by omega, by omega, fun hl => h3 (by omega), fun m hm1 hm2 => ?_⟩
      by_cases e : m = s
      · subst e; simpa using h
      · exact h4 m (by omega) hm2
theorem dn_spec (inn : Nat → Bool) (n : Nat) : ∀ k, (dnG inn n k = n ∧ ∀ m, m < k → inn m = false) ∨ (dnG inn n k < k ∧ inn (dnG inn n k) = true ∧ ∀ m, dnG inn n k < m → m < k → inn m = false)
  | 0 => .inl ⟨rfl, fun m h => by omega⟩
  | k + 1 => by
    unfold dnG
    by_cases h : inn k = true
    · rw [if_pos h]
      exact .inr ⟨by omega, h, fun m h1 h2 => by omega⟩
    · rw [if_neg h]
      have hk : inn k = false := by simpa using h
      rcases dn_spec inn n k with ⟨h1, h2⟩ | ⟨h1, h2, h3⟩
      · refine .inl ⟨h1, fun m hm => ?_⟩
        by_cases e : m = k
        · subst e; exact hk
        · exact h2 m (by omega)
      · refine .inr ⟨by omega, h2, fun m hm1 hm2 => ?_⟩
        by_cases e : m = k
        · subst e; exact hk
        · exact h3 m hm1 (by omega)
theorem up_uniq {inn : Nat → Bool} {d s j : Nat} (h1 : s ≤ j) (h2 : j ≤ s + d) (h3 : j < s + d → inn j = true) (h4 : ∀ m, s ≤ m → m < j → inn m = false) : upG inn d s = j := by
  obtain ⟨k1, k2, k3, k4⟩ := up_spec inn d s
  rcases Nat.lt_trichotomy (upG inn d s) j with h | h | h
  · have := k3 (by omega); rw [h4 _ k1 h] at this; cases this
  · exact h
  · have := h3 (by omega); rw [k4 _ h1 h] at this; cases this
theorem dn_uniq {inn : Nat → Bool} {n k j : Nat} (hk : k ≤ n) (h : (j = n ∧ ∀ m, m < k → inn m = false) ∨ (j < k ∧ inn j = true ∧ ∀ m, j < m → m < k → inn m = false)) : dnG inn n k = j := by
  rcases dn_spec inn n k with ⟨k1, k2⟩ | ⟨k1, k2, k3⟩ <;> rcases h with ⟨h1, h2⟩ | ⟨h1, h2, h3⟩
  · omega
  · rw [k2 _ h1] at h2; cases h2
  · rw [h2 _ k1] at k2; cases k2
  · rcases Nat.lt_trichotomy (dnG inn n k) j with h | h | h
    · rw [k3 _ h h1] at h2; cases h2
    · exact h
    · rw [h3 _ h k1] at k2; cases k2
theorem nx_le {inn : Nat → Bool} {n i : Nat} (hi : i ≤ n) : nxF inn n i ≤ n := by
  unfold nxF
  split
  · have := (up_spec inn n 0).2.1; omega
  · have := (up_spec inn (n - (i + 1)) (i + 1)).2.1; omega
theorem nx_in {inn : Nat → Bool} {n i : Nat} (hi : i ≤ n) (h : nxF inn n i < n) : inn (nxF inn n i) = true := by
  unfold nxF at h ⊢
  split at h <;> rename_i h0
  · rw [if_pos h0] 
    exact (up_spec inn n 0).2.2.1 (by omega)
  · rw [if_neg h0]
    exact (up_spec inn (n - (i + 1)) (i + 1)).2.2.1 (by omega)
theorem dn_le {inn : Nat → Bool} {n i : Nat} (hi : i ≤ n) : dnG inn n i ≤ n := by
  rcases dn_spec inn n i with ⟨h, _⟩ | ⟨h, _⟩ <;> omega
theorem dn_in {inn : Nat → Bool} {n i : Nat} (hi : i ≤ n) (h : dnG inn n i < n) : inn (dnG inn n i) = true := by
  rcases dn_spec inn n i with ⟨h1, _⟩ | ⟨_, h1, _⟩
  · omega
  · exact h1
/-- What stands behind k has k ahead of it. -/
theorem dn_nx {inn : Nat → Bool} {n k : Nat} (hk : k < n) (hin : inn k = true) : dnG inn n (nxF inn n k) = k := by
  obtain ⟨h1, h2, h3, h4⟩ := up_spec inn (n - (k + 1)) (k + 1)
  unfold nxF
  rw [if_neg (by omega)]
  exact dn_uniq (by omega) (.inr ⟨by omega, hin, fun m h5 h6 => h4 m (by omega) h6⟩)
theorem nx_dn {inn : Nat → Bool} {n k : Nat} (hk : k < n) (hin : inn k = true) : nxF inn n (dnG inn n k) = k := by
  unfold nxF
  rcases dn_spec inn n k with ⟨h1, h2⟩ | ⟨h1, h2, h3⟩
  · rw [if_pos h1]
    exact up_uniq (by omega) (by omega) (fun _ => hin) (fun m _ h => h2 m h)
  · rw [if_neg (by omega)]
    exact up_uniq (by omega) (by omega) (fun _ => hin) (fun m h4 h5 => h3 m (by omega) h5)
/-- The knot's neighbours, from the other side. -/
theorem nx_dn_knot {inn : Nat → Bool} {n : Nat} (h : dnG inn n n < n) : nxF inn n (dnG inn n n) = n := by
  unfold nxF
  rw [if_neg (by omega)]
  rcases dn_spec inn n n with ⟨h1, h2⟩ | ⟨h1, h2, h3⟩
  · omega
  · exact up_uniq (by omega) (by omega) (fun h => by omega) (fun m h4 h5 => h3 m (by omega) h5)
/-- Cutting k out: who has k behind gets who is behind k. -/
theorem nx_cut {inn : Nat → Bool} {n k i : Nat} (hk : k < n) (hin : inn k = true) (hi : i ≤ n) (hii : i = n ∨ inn i = true) (hik : i ≠ k) :
    nxF (cutP inn k) n i = if i = dnG inn n k then nxF inn n k else nxF inn n i := by
  have hA : ∀ s d, s + d = n → (∀ m, s ≤ m → m < k → inn m = false) → s ≤ k → upG (cutP inn k) d s = upG inn (n - (k + 1)) (k + 1) := by
    intro s d hsd h0 hsk
    obtain ⟨h1, h2, h3, h4⟩ := up_spec inn (n - (k + 1)) (k + 1)
    refine up_uniq (by omega) (by omega) (fun h => ?_) (fun m h5 h6 => ?_)
    · unfold cutP
      rw [if_neg (by omega)]
      exact h3 (by omega)
    · unfold cutP
      by_cases e : m = k
      · rw [if_pos e]
      · rw [if_neg e]
        by_cases e2 : m < k
        · exact h0 m h5 e2
        · exact h4 m (by omega) h6
  have hB : ∀ s d, s + d = n → upG inn d s ≠ k → upG (cutP inn k) d s = upG inn d s := by
    intro s d hsd hne
    obtain ⟨h1, h2, h3, h4⟩ := up_spec inn d s
    refine up_uniq h1 h2 (fun h => ?_) (fun m h5 h6 => ?_)
    · unfold cutP
      rw [if_neg hne]
      exact h3 h
    · unfold cutP
      split
      · rfl
      · exact h4 m h5 h6
  by_cases e : i = dnG inn n k
  · rw [if_pos e]
    rw [show nxF inn n k = upG inn (n - (k + 1)) (k + 1) by unfold nxF; rw [if_neg (by omega)]]
    unfold nxF
    rcases dn_spec inn n k with ⟨h1, h2⟩ | ⟨h1, h2, h3⟩
    · rw [if_pos (by omega)]
      exact hA 0 n (by omega) (fun m _ h => h2 m h) (by omega)
    · rw [if_neg (by omega)]
      exact hA _ _ (by omega) (fun m h4 h5 => h3 m (by omega) h5) (by omega)
  · rw [if_neg e]
    have hne : nxF inn n i ≠ k := by
      intro h
      refine e ?_
      symm
      unfold nxF at h
      split at h
      · rename_i hn
        obtain ⟨h1, h2, h3, h4⟩ := up_spec inn n 0
        rw [h] at h4
        exact dn_uniq (by omega) (.inl ⟨hn, fun m h => h4 m (by omega) h⟩)
      · rename_i hn
        obtain ⟨h1, h2, h3, h4⟩ := up_spec inn (n - (i + 1)) (i + 1)
        rw [h] at h4 h1
        exact dn_uniq (by omega) (.inr ⟨by omega, hii.resolve_left hn, fun m h5 h6 => h4 m (by omega) h6⟩)
    unfold nxF at hne ⊢
    split
    · rename_i hn
      rw [if_pos hn] at hne
      exact hB 0 n (by omega) hne
    · rename_i hn
      rw [if_neg hn] at hne
      exact hB _ _ (by omega) hne
theorem dn_cut {inn : Nat → Bool} {n k i : Nat} (hk : k < n) (hin : inn k = true) (hi : i ≤ n) (hii : i = n ∨ inn i = true) (hik : i ≠ k) :
    dnG (cutP inn k) n i = if i = nxF inn n k then dnG inn n k else dnG inn n i := by
  have hnx : nxF inn n k = upG inn (n - (k + 1)) (k + 1) := by unfold nxF; rw [if_neg (by omega)]
  obtain ⟨h1, h2, h3, h4⟩ := up_spec inn (n - (k + 1)) (k + 1)
  rw [← hnx] at h1 h2 h3 h4
  by_cases e : i = nxF inn n k
  · rw [if_pos e]
    refine dn_uniq hi ?_
    rcases dn_spec inn n k with ⟨k1, k2⟩ | ⟨k1, k2, k3⟩
    · refine .inl ⟨k1, fun m hm => ?_⟩
      unfold cutP
      split
      · rfl
      · by_cases e2 : m < k
        · exact k2 m e2
        · exact h4 m (by omega) (by omega)
    · refine .inr ⟨by omega, ?_, fun m hm1 hm2 => ?_⟩
      · unfold cutP
        rw [if_neg (by omega)]
        exact k2
      · unfold cutP
        split
        · rfl
        · by_cases e2 : m < k
          · exact k3 m hm1 e2
          · exact h4 m (by omega) (by omega)
  · rw [if_neg e]
    have hne : dnG inn n i ≠ k := by
      intro h
      refine e ?_
      rcases dn_spec inn n i with ⟨k1, k2⟩ | ⟨k1, k2, k3⟩
      · omega
      · rw [h] at k1 k3
        symm
        rw [hnx]
        refine up_uniq (by omega) (by omega) (fun hl => ?_) (fun m h5 h6 => k3 m (by omega) h6)
        rcases hii with hii | hii
        · omega
        · exact hii
    refine dn_uniq hi ?_
    rcases dn_spec inn n i with ⟨k1, k2⟩ | ⟨k1, k2, k3⟩
    · refine .inl ⟨k1, fun m hm => ?_⟩
      unfold cutP
      split
      · rfl
      · exact k2 m hm
    · refine .inr ⟨k1, ?_, fun m hm1 hm2 => ?_⟩
      · unfold cutP
        rw [if_neg hne]
        exact k2
      · unfold cutP
        split
        · rfl
        · exact k3 m hm1 hm2
/-- All that stand, rising, from s on. -/
def allG (inn : Nat → Bool) : Nat → Nat → List Nat
  | 0, _ => []
  | d + 1, s => if inn s then s :: allG inn d (s + 1) else allG inn d (s + 1)
theorem all_up (inn : Nat → Bool) : ∀ d s, allG inn d s = if upG inn d s < s + d then upG inn d s :: allG inn (s + d - (upG inn d s + 1)) (upG inn d s + 1) else []
  | 0, s => by simp [allG, upG]
  | d + 1, s => by
    rw [show allG inn (d + 1) s = if inn s then s :: allG inn d (s + 1) else allG inn d (s + 1) from rfl, show upG inn (d + 1) s = if inn s then s else upG inn d (s + 1) from rfl]
    by_cases h : inn s = true
    · rw [if_pos h, if_pos h, if_pos (by omega), show s + (d + 1) - (s + 1) = d by omega]
    · rw [if_neg h, if_neg h, all_up inn d (s + 1), show s + 1 + d = s + (d + 1) by omega]
theorem all_mem {inn : Nat → Bool} : ∀ {d s m : Nat}, m ∈ allG inn d s → s ≤ m ∧ m < s + d ∧ inn m = true
  | 0, s, m, h => by simp [allG] at h
  | d + 1, s, m, h => by
    unfold allG at h
    split at h
    · rename_i hs
      rcases List.mem_cons.1 h with rfl | h
      · exact ⟨by omega, by omega, hs⟩
      · obtain ⟨h1, h2, h3⟩ := all_mem h
        exact ⟨by omega, by omega, h3⟩
    · obtain ⟨h1, h2, h3⟩ := all_mem h
      exact ⟨by omega, by omega, h3⟩
theorem all_len (inn : Nat → Bool) : ∀ d s, (allG inn d s).length ≤ d
  | 0, s => by simp [allG]
  | d + 1, s => by
    unfold allG
    have := all_len inn d (s + 1)
    split
    · simp; omega
    · omega
/-- The last one of a list, as a number; -1 of none. -/
def lastI : List Nat → Int
  | [] => -1
  | [x] => x
  | _ :: y :: l => lastI (y :: l)
theorem lastI_snoc (l : List Nat) (x : Nat) : lastI (l ++ [x]) = x := by
  induction l with
  | nil => rfl
  | cons a l ih =>
    cases l with
    | nil => rfl
    | cons b l => exact ih
theorem all_rise {inn : Nat → Bool} : ∀ {d s : Nat} {p : List Nat} {x : Nat}, (p ++ [x]) <+: allG inn d s → lastI p < (x : Int) ∧ (p ≠ [] → (s : Int) ≤ lastI p)
  | 0, s, p, x, h => by simp [allG] at h
  | d + 1, s, p, x, h => by
    unfold allG at h
    split at h
    · cases p with
      | nil => exact ⟨by unfold lastI; omega, fun h => absurd rfl h⟩
      | cons a p =>
        obtain ⟨rfl, h2⟩ := List.cons_prefix_cons.1 h
        have := all_rise h2
        cases p with
        | nil =>
          have hx := all_mem (h2.subset (by simp : x ∈ [] ++ [x]))
          exact ⟨by show (a : Int) < x; omega, fun _ => by show (a : Int) ≤ (a : Int); omega⟩
        | cons b p => exact ⟨this.1, fun _ => by have := this.2 (by simp); show (a : Int) ≤ lastI (b :: p); omega⟩
    · have := all_rise h
      exact ⟨this.1, fun hp => by have := this.2 hp; omega⟩
/-- How many of the first k stand. -/
def cntG (inn : Nat → Bool) : Nat → Nat
  | 0 => 0
  | k + 1 => cntG inn k + (if inn k then 1 else 0)
theorem all_snoc (inn : Nat → Bool) : ∀ d s, allG inn (d + 1) s = allG inn d s ++ (if inn (s + d) then [s + d] else [])
  | 0, s => by unfold allG; simp [allG]
  | d + 1, s => by
    rw [allG, all_snoc inn d (s + 1)]
    conv => rhs; rw [allG]
    rw [show s + 1 + d = s + (d + 1) by omega]
    split <;> simp
theorem all_cnt (inn : Nat → Bool) : ∀ n, (allG inn n 0).length = cntG inn n
  | 0 => rfl
  | n + 1 => by
    rw [all_snoc, List.length_append, all_cnt inn n, cntG, Nat.zero_add]
    split <;> rfl
theorem cnt_cut (inn : Nat → Bool) {k : Nat} (hin : inn k = true) : ∀ n, cntG (cutP inn k) n + (if k < n then 1 else 0) = cntG inn n
  | 0 => by simp [cntG]
  | n + 1 => by
    have ih := cnt_cut inn hin n
    simp only [cntG]
    rcases Nat.lt_trichotomy k n with h | h | h
    · rw [if_pos h] at ih
      have e : cutP inn k n = inn n := if_neg (by omega)
      rw [e, if_pos (by omega : k < n + 1)]
      omega
    · subst h
      rw [if_neg (by omega)] at ih
      have e : cutP inn k k = false := if_pos rfl
      rw [e, hin, if_pos (by omega : k < k + 1)]
      simp
      omega
    · rw [if_neg (by omega)] at ih
      have e : cutP inn k n = inn n := if_neg (by omega)
      rw [e, if_neg (by omega : ¬ k < n + 1)]
      omega
theorem cnt_all {n : Nat} : ∀ {k : Nat}, k ≤ n → cntG (fun m => decide (m < n)) k = k
  | 0, _ => rfl
  | k + 1, h => by
    unfold cntG
    rw [cnt_all (by omega)]
    simp
    omega
theorem up_all {inn : Nat → Bool} {d s : Nat} (h : inn s = true) : upG inn d s = s := by
  cases d with
  | zero => rfl
  | succ d => unfold upG; rw [if_pos h]
end Go.Proofs.YtjbdhakogbolkaaDoor.CH
end
section
/- bpe in plain mathematics: which step is next, what is left at the end; a row of places read as a list. -/
namespace Go.Proofs.YtjbdhakogbolkaaDoor
set_option linter.unusedVariables false
/-- What the two that stand at j and behind it become. -/
def mpJ (ms : List Mg) (l : List Int) (j : Nat) : Option (Nat × Int) := (l[j]?).bind fun a => (l[j + 1]?).bind fun b => mergeM ms a b
/-- The two at a place become one. -/
def repl (l : List Int) (at_ : Nat) (id : Int) : List Int := (l.set at_ id).eraseIdx (at_ + 1)
/-- No two neighbours have a merge. -/
def NoN (ms : List Mg) (l : List Int) : Prop := ∀ j, mpJ ms l j = none
/-- The step that is next: its rank, its place, its Id. -/
def IsN (ms : List Mg) (l : List Int) (k at_ : Nat) (id : Int) : Prop := mpJ ms l at_ = some (k, id) ∧ ∀ j k' id', mpJ ms l j = some (k', id') → k < k' ∨ (k = k' ∧ at_ ≤ j)
theorem IsN.uniq {ms : List Mg} {l : List Int} {k k' a a' : Nat} {i i' : Int} (h : IsN ms l k a i) (g : IsN ms l k' a' i') : k = k' ∧ a = a' ∧ i = i' := by
  have h1 := h.2 _ _ _ g.1
  have h2 := g.2 _ _ _ h.1
  have e1 : k = k' := by omega
  have e2 : a = a' := by omega
  subst e1 e2
  have h3 := h.1
  rw [g.1] at h3
  simp at h3
  exact ⟨rfl, rfl, h3.symm⟩
theorem IsN.noN {ms : List Mg} {l : List Int} {k a : Nat} {i : Int} (h : IsN ms l k a i) : ¬ NoN ms l := fun g => by
  have := g a
  rw [h.1] at this
  cases this
/-- Step by step, to the end. -/
inductive JR (ms : List Mg) : List Int → List (Nat × Nat) → List Int → Prop
  | done {l} (h : NoN ms l) : JR ms l [] l
  | step {l k a i st l'} (h : IsN ms l k a i) (g : JR ms (repl l a i) st l') : JR ms l ((k, a) :: st) l'
theorem JR.uniq {ms : List Mg} {l : List Int} {st st' : List (Nat × Nat)} {r r' : List Int} (h : JR ms l st r) (g : JR ms l st' r') : st = st' ∧ r = r' := by
  induction h generalizing st' r' with
  | done h =>
    cases g with
    | done _ => exact ⟨rfl, rfl⟩
    | step h' _ => exact absurd h h'.noN
  | step h _ ih =>
    cases g with
    | done g => exact absurd g h.noN
    | step h' g =>
      obtain ⟨rfl, rfl, rfl⟩ := h.uniq h'
      obtain ⟨rfl, rfl⟩ := ih g
      exact ⟨rfl, rfl⟩
/-- Some steps. -/
inductive JS (ms : List Mg) : List Int → List (Nat × Nat) → List Int → Prop
  | nil {l} : JS ms l [] l
  | snoc {l st l' k a i} (g : JS ms l st l') (h : IsN ms l' k a i) : JS ms l (st ++ [(k, a)]) (repl l' a i)
theorem JS.on {ms : List Mg} {l : List Int} {st : List (Nat × Nat)} {l' : List Int} (h : JS ms l st l') {st' : List (Nat × Nat)} {r : List Int} (g : JR ms l' st' r) : JR ms l (st ++ st') r := by
  induction h generalizing st' with
  | nil => exact g
  | snoc _ h ih =>
    have := ih (JR.step h g)
    rw [List.append_assoc]
    exact this
theorem JS.fin {ms : List Mg} {l : List Int} {st : List (Nat × Nat)} {l' : List Int} (h : JS ms l st l') (g : NoN ms l') : JR ms l st l' := by
  have := h.on (JR.done g)
  simpa using this
theorem mpJ_lt {ms : List Mg} {l : List Int} {j : Nat} {x : Nat × Int} (h : mpJ ms l j = some x) : j + 1 < l.length := by
  unfold mpJ at h
  cases h1 : l[j]? with
  | none => rw [h1] at h; cases h
  | some a =>
    cases h2 : l[j + 1]? with
    | none => rw [h1, h2] at h; cases h
    | some b => exact (List.getElem?_eq_some_iff.1 h2).1
theorem repl_length {l : List Int} {a : Nat} {i : Int} (h : a + 1 < l.length) : (repl l a i).length = l.length - 1 := by
  unfold repl
  rw [List.length_eraseIdx_of_lt (by rw [List.length_set]; exact h), List.length_set]
theorem JS.len {ms : List Mg} {l : List Int} {st : List (Nat × Nat)} {l' : List Int} (h : JS ms l st l') : l'.length + st.length = l.length := by
  induction h with
  | nil => simp
  | snoc _ h ih =>
    have h1 := mpJ_lt h.1
    rw [repl_length h1, List.length_append, List.length_singleton]
    omega
theorem exists_next (ms : List Mg) (l : List Int) : ∀ m, (∀ j, j < m → mpJ ms l j = none) ∨ ∃ k a i, a < m ∧ mpJ ms l a = some (k, i) ∧ ∀ j k' i', j < m → mpJ ms l j = some (k', i') → k < k' ∨ (k = k' ∧ a ≤ j)
  | 0 => .inl fun j h => by omega
  | m + 1 => by
    cases hm : mpJ ms l m with
    | none =>
      rcases exists_next ms l m with h | ⟨k, a, i, h1, h2, h3⟩
      · refine .inl fun j hj => ?_
        by_cases e : j = m
        · rw [e]; exact hm
        · exact h j (by omega)
      · refine .inr ⟨k, a, i, by omega, h2, fun j k' i' hj h => ?_⟩
        by_cases e : j = m
        · rw [e, hm] at h; cases h
        · exact h3 j k' i' (by omega) h
    | some x =>
      obtain ⟨k0, i0⟩ := x
      rcases exists_next ms l m with h | ⟨k, a, i, h1, h2, h3⟩
      · refine .inr ⟨k0, m, i0, by omega, hm, fun j k' i' hj hh => ?_⟩
        by_cases e : j = m
        · rw [e, hm] at hh; simp at hh; right; omega
        · rw [h j (by omega)] at hh; cases hh
      · by_cases hk : k0 < k
        · refine .inr ⟨k0, m, i0, by omega, hm, fun j k' i' hj hh => ?_⟩
          by_cases e : j = m
          · rw [e, hm] at hh; simp at hh; right; omega
          · have := h3 j k' i' (by omega) hh; omega
        · refine .inr ⟨k, a, i, by omega, h2, fun j k' i' hj hh => ?_⟩
          by_cases e : j = m
          · rw [e, hm] at hh; simp at hh; omega
          · exact h3 j k' i' (by omega) hh
theorem next_or (ms : List Mg) (l : List Int) : NoN ms l ∨ ∃ k a i, IsN ms l k a i := by
  have hp : ∀ j x, mpJ ms l j = some x → j < l.length := fun j x h => by have := mpJ_lt h; omega
  rcases exists_next ms l l.length with h | ⟨k, a, i, h1, h2, h3⟩
  · left
    intro j
    cases hj : mpJ ms l j with
    | none => rfl
    | some x => rw [← hj]; exact h j (hp j x hj)
  · exact .inr ⟨k, a, i, h2, fun j k' i' h => h3 j k' i' (hp j _ h) h⟩
theorem JR.ex (ms : List Mg) : ∀ (n : Nat) (l : List Int), l.length ≤ n → ∃ st r, JR ms l st r
  | 0, l, h => by
    have : l = [] := List.length_eq_zero_iff.1 (by omega)
    subst this
    exact ⟨_, _, JR.done fun j => by unfold mpJ; simp⟩
  | n + 1, l, h => by
    rcases next_or ms l with h1 | ⟨k, a, i, h1⟩
    · exact ⟨_, _, JR.done h1⟩
    · have h2 := mpJ_lt h1.1
      obtain ⟨st, r, h3⟩ := JR.ex ms n (repl l a i) (by rw [repl_length h2]; omega)
      exact ⟨_, _, JR.step h1 h3⟩
theorem JR.ex' (ms : List Mg) (l : List Int) : ∃ st r, JR ms l st r := JR.ex ms _ l (Nat.le_refl _)
namespace CH
theorem cnt_flat {inn : Nat → Bool} {a : Nat} : ∀ {b : Nat}, a ≤ b → (∀ m, a ≤ m → m < b → inn m = false) → cntG inn b = cntG inn a
  | 0, h, _ => by rw [show a = 0 by omega]
  | b + 1, h, g => by
    by_cases e : a = b + 1
    · rw [e]
    · rw [cntG, g b (by omega) (by omega), cnt_flat (by omega) fun m h1 h2 => g m h1 (by omega)]
      simp
theorem cnt_mono {inn : Nat → Bool} {a : Nat} : ∀ {b : Nat}, a ≤ b → cntG inn a ≤ cntG inn b
  | 0, h => by rw [show a = 0 by omega]; exact Nat.le_refl _
  | b + 1, h => by
    by_cases e : a = b + 1
    · rw [e]; exact Nat.le_refl _
    · rw [cntG]
      have := cnt_mono (inn := inn) (a := a) (b := b) (by omega)
      omega
theorem cnt_lt {inn : Nat → Bool} {a b : Nat} (h : a < b) (hin : inn a = true) : cntG inn a < cntG inn b := by
  have := cnt_mono (inn := inn) (a := a + 1) (b := b) (by omega)
  rw [cntG, hin] at this
  simp at this
  omega
theorem all_at {inn : Nat → Bool} : ∀ {n k : Nat}, k < n → inn k = true → (allG inn n 0)[cntG inn k]? = some k
  | 0, k, h, _ => by omega
  | n + 1, k, h, hin => by
    rw [all_snoc, Nat.zero_add]
    by_cases e : k = n
    · subst e
      rw [List.getElem?_append_right (by rw [all_cnt]; exact Nat.le_refl _), all_cnt, hin]
      simp
    · have h1 := all_at (n := n) (by omega) hin
      rw [List.getElem?_append_left (List.getElem?_eq_some_iff.1 h1).1]
      exact h1
theorem at_all {inn : Nat → Bool} : ∀ {n p k : Nat}, (allG inn n 0)[p]? = some k → k < n ∧ inn k = true ∧ cntG inn k = p
  | 0, p, k, h => by simp [allG] at h
  | n + 1, p, k, h => by
    rw [all_snoc, Nat.zero_add] at h
    by_cases hp : p < (allG inn n 0).length
    · rw [List.getElem?_append_left hp] at h
      obtain ⟨h1, h2, h3⟩ := at_all h
      exact ⟨by omega, h2, h3⟩
    · rw [List.getElem?_append_right (by omega)] at h
      by_cases hn : inn n = true
      · rw [if_pos hn] at h
        have hp0 : p - (allG inn n 0).length = 0 := by
          have := (List.getElem?_eq_some_iff.1 h).1
          simp at this
          omega
        rw [hp0] at h
        simp at h
        subst h
        exact ⟨by omega, hn, by rw [← all_cnt]; omega⟩
      · rw [if_neg hn] at h
        simp at h
theorem cnt_nx {inn : Nat → Bool} {n k : Nat} (hk : k < n) (hin : inn k = true) : cntG inn (nxF inn n k) = cntG inn k + 1 := by
  obtain ⟨h1, h2, h3, h4⟩ := up_spec inn (n - (k + 1)) (k + 1)
  unfold nxF
  rw [if_neg (by omega), cnt_flat h1 h4, cntG, hin]
  simp
theorem nx_gt {inn : Nat → Bool} {n k : Nat} (hk : k < n) : k < nxF inn n k := by
  have := (up_spec inn (n - (k + 1)) (k + 1)).1
  unfold nxF
  rw [if_neg (by omega)]
  omega
theorem all_cut {inn : Nat → Bool} {k : Nat} (hin : inn k = true) : ∀ {n : Nat}, k < n → allG (cutP inn k) n 0 = (allG inn n 0).eraseIdx (cntG inn k)
  | 0, h => by omega
  | n + 1, h => by
    rw [all_snoc, all_snoc inn, Nat.zero_add]
    by_cases e : k = n
    · subst e
      have h0 : ∀ d s, s + d ≤ k → allG (cutP inn k) d s = allG inn d s := by
        intro d
        induction d with
        | zero => intro s _; rfl
        | succ d ih =>
          intro s hs
          unfold allG
          rw [ih (s + 1) (by omega), show cutP inn k s = inn s from if_neg (by omega)]
      rw [h0 k 0 (by omega), hin, if_pos rfl, show cutP inn k k = false from if_pos rfl, List.eraseIdx_append_of_length_le (by rw [all_cnt]; exact Nat.le_refl _), all_cnt, Nat.sub_self]
      simp
    · rw [all_cut hin (by omega : k < n), show cutP inn k n = inn n from if_neg (by omega)]
      have h1 := all_at (n := n) (by omega) hin
      rw [List.eraseIdx_append_of_lt_length (List.getElem?_eq_some_iff.1 h1).1]
end CH
open CH
/-- The ids that stand, in their order. -/
def vwJ (inn : Nat → Bool) (n : Nat) (ids : Nat → Int) : List Int := (allG inn n 0).map ids
/-- Laying an id at a place. -/
def updI (ids : Nat → Int) (k : Nat) (v : Int) : Nat → Int := fun j => if j = k then v else ids j
theorem vw_at {inn : Nat → Bool} {n k : Nat} {ids : Nat → Int} (hk : k < n) (hin : inn k = true) : (vwJ inn n ids)[cntG inn k]? = some (ids k) := by
  unfold vwJ
  rw [List.getElem?_map, all_at hk hin]
  rfl
/-- What a place and the next one become. -/
def paJ (ms : List Mg) (inn : Nat → Bool) (n : Nat) (ids : Nat → Int) (k : Nat) : Option (Nat × Int) := if k < n ∧ inn k = true ∧ nxF inn n k < n then mergeM ms (ids k) (ids (nxF inn n k)) else none
theorem pa_mp {ms : List Mg} {inn : Nat → Bool} {n k : Nat} {ids : Nat → Int} (hk : k < n) (hin : inn k = true) : mpJ ms (vwJ inn n ids) (cntG inn k) = paJ ms inn n ids k := by
  unfold mpJ paJ
  rw [vw_at hk hin]
  simp only [Option.bind_some]
  by_cases h : nxF inn n k < n
  · have h2 := vw_at (ids := ids) h (nx_in (by omega) h)
    rw [cnt_nx hk hin] at h2
    rw [if_pos ⟨hk, hin, h⟩, h2]
    rfl
  · rw [if_neg (fun h2 => h h2.2.2)]
    have h3 : (vwJ inn n ids)[cntG inn k + 1]? = none := by
      rw [List.getElem?_eq_none_iff]
      unfold vwJ
      rw [List.length_map, all_cnt, ← cnt_nx hk hin]
      have := nx_le (inn := inn) (n := n) (i := k) (by omega)
      rw [show nxF inn n k = n by omega]
      exact Nat.le_refl _
    rw [h3]
    rfl
theorem mp_pa {ms : List Mg} {inn : Nat → Bool} {n j : Nat} {ids : Nat → Int} {x : Nat × Int} (h : mpJ ms (vwJ inn n ids) j = some x) : ∃ k, k < n ∧ inn k = true ∧ cntG inn k = j ∧ paJ ms inn n ids k = some x := by
  have hl : j < (vwJ inn n ids).length := by have := mpJ_lt h; omega
  unfold vwJ at hl
  rw [List.length_map] at hl
  obtain ⟨h1, h2, h3⟩ := at_all (List.getElem?_eq_getElem hl)
  refine ⟨_, h1, h2, h3, ?_⟩
  rw [← pa_mp h1 h2, h3]
  exact h
theorem vw_join {inn : Nat → Bool} {n k : Nat} {ids : Nat → Int} {id : Int} (hk : k < n) (hin : inn k = true) (hx : nxF inn n k < n) : vwJ (cutP inn (nxF inn n k)) n (updI ids k id) = repl (vwJ inn n ids) (cntG inn k) id := by
  unfold repl vwJ
  have hmap : ∀ (l : List Nat) (f : Nat → Int) (i : Nat), (l.eraseIdx i).map f = (l.map f).eraseIdx i := by
    intro l f i
    rw [List.eraseIdx_eq_take_drop_succ, List.eraseIdx_eq_take_drop_succ, List.map_append, List.map_take, List.map_drop]
  rw [all_cut (nx_in (by omega) hx) hx, cnt_nx hk hin, hmap]
  congr 1
  apply List.ext_getElem?
  intro p
  rw [List.getElem?_map, List.getElem?_set]
  by_cases e : cntG inn k = p
  · rw [if_pos e, ← e, all_at hk hin]
    have := (List.getElem?_eq_some_iff.1 (all_at (n := n) hk hin)).1
    rw [if_pos (by rw [List.length_map]; exact this)]
    simp [updI]
  · rw [if_neg e, List.getElem?_map]
    cases h : (allG inn n 0)[p]? with
    | none => rfl
    | some q =>
      have h1 := (at_all h).2.2
      simp only [Option.map_some, Option.some.injEq]
      unfold updI
      rw [if_neg (fun e2 => e (by rw [← e2]; exact h1))]
end Go.Proofs.YtjbdhakogbolkaaDoor
end
