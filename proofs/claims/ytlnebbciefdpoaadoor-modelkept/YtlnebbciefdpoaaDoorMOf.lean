/- tesserakeep.Large, Of: their contracts. -/
import Derived.Test.YtlnebbciefdpoaaDoorMCheck
namespace Go.Proofs.YtlnebbciefdpoaaDoor
open Go.RowKit Go.Sort Go.Joins
set_option linter.unusedVariables false
/-- A block, by a name that the walk doesn't open. -/
def Blk (w : World) (g : Nat) (o : Obj) : Prop := w.heap[g]? = some o
theorem Blk.lt {w : World} {g : Nat} {o : Obj} (h : Blk w g o) : g < w.heap.size := (Array.getElem?_eq_some_iff.1 h).1
theorem Blk.below {w w' : World} {g B : Nat} {o : Obj} (h : Blk w g o) (hb : Below B w w') (hg : g < B) : Blk w' g o := (hb.block g hg).trans h
theorem Blk.up {w w' : World} {g : Nat} {o : Obj} (h : Blk w g o) (hb : Below w.heap.size w w') : Blk w' g o := h.below hb h.lt
theorem Blk.new (w : World) (o : Obj) : Blk (w.alloc o) w.heap.size o := heap_alloc_new _ _
theorem Blk.cell {w : World} {g : Nat} {cs : Array Value} {t : TypeId} {fr : Nat × Nat} (h : Blk w g (.cells cs t fr)) (i : Nat) : w.cell? ⟨g, i, none⟩ = cs[i]? := cell_of_block h i
theorem Blk.free {w : World} {g : Nat} {cs : Array Value} {t : TypeId} (h : Blk w g (.cells cs t (0, 0))) (i : Nat) : w.frozen? ⟨g, i, none⟩ = false := unfrozen_of_block h i
theorem below_drawn (w : World) (n : Nat) : Below w.heap.size w (w.drewN n) := below_drewN (Below.refl _ _) n
def largeB (n : Nat) : Bool := decide (300 < n) && decide (n ≤ 4096)
set_option maxRecDepth 100000 in
set_option maxHeartbeats 1000000 in
theorem large_any (aw am a b c : Option Addr) (nw cw nm cm na ca nb cb nc cc : Nat) (w : World) :
    Calls Tryd.prog 27 #[.agg #[.slice aw nw cw, .slice am nm cm, .slice a na ca, .slice b nb cb, .slice c nc cc]] w fun e w' => e = .returned (.bool (largeB nm)) ∧ Below w.heap.size w w' := by
  have hD := DBox.new w (.slice aw nw cw) (.slice am nm cm) (.slice a na ca) (.slice b nb cb) (.slice c nc cc)
  have hb := box_below w (.cells #[.slice aw nw cw, .slice am nm cm, .slice a na ca, .slice b nb cb, .slice c nc cc] 42)
  have x1 := hD.c1
  clear hD
  unfold largeB
  by_cases h1 : 300 < nm
  · have g1 : decide ((300 : Int) < (nm : Int)) = true := decide_eq_true (by omega)
    have e1 : decide (300 < nm) = true := decide_eq_true h1
    obtain ⟨B, hB⟩ : ∃ B, B = decide (nm ≤ 4096) := ⟨_, rfl⟩
    have g2 : decide ((nm : Int) ≤ 4096) = B := by rw [hB]; congr 1; exact propext (by omega)
    rw [e1, ← hB]
    clear hB e1
    go_enter Tryd.func27, Tryd.ntmps27
    go_wp2_with fail
    go_ret
    exact ⟨by simp, hb⟩
  · have g1 : decide ((300 : Int) < (nm : Int)) = false := decide_eq_false (by omega)
    have e1 : decide (300 < nm) = false := decide_eq_false h1
    rw [e1]
    clear e1
    go_enter Tryd.func27, Tryd.ntmps27
    go_wp2_with fail
    go_ret
    exact ⟨by simp, hb⟩
def upB (ws : List ByteArray) (ms : List Mg) (A B C : List Sp) : Bool := !largeB ms.length && decide ((checkD ws ms A B C).1 = 0)
theorem firstBad_pair {f : Nat → Nat} {n : Nat} (h : (firstBad f n).1 = 0) : firstBad f n = (0, 0) := by
  rcases firstBad_cases f n with ⟨_, h2⟩ | ⟨k, _, _, h3, h4⟩
  · exact h2
  · rw [h4] at h; exact absurd h h3
theorem checkD_nil {ws : List ByteArray} {ms : List Mg} {A B C : List Sp} (h : (checkD ws ms A B C).1 = 0) : checkD ws ms A B C = (0, 0, 0) := by
  unfold checkD at h ⊢
  by_cases h1 : 4096 < ms.length
  · rw [if_pos h1] at h; cases h
  · rw [if_neg h1] at h ⊢
    by_cases h2 : ws.length ≠ ms.length
    · rw [if_pos h2] at h; cases h
    · rw [if_neg h2] at h ⊢
      by_cases h3 : (checkA A B C).1 ≠ 0
      · rw [if_pos h3] at h; exact absurd h h3
      · rw [if_neg h3] at h ⊢
        by_cases h4 : (firstBad (badW ws) ws.length).1 ≠ 0
        · rw [if_pos h4] at h; exact absurd h h4
        · rw [if_neg h4] at h ⊢
          by_cases h5 : (firstBad (badM ws ms) ms.length).1 ≠ 0
          · rw [if_pos h5] at h; exact absurd h h5
          · rw [if_neg h5]
theorem fEq_zero : ∀ W, (binOp BinOp.neq 26 (.agg #[.int .i64 0, .int .i64 0, .int .i64 0]) (.agg #[.int .i64 0, .int .i64 0, .int .i64 0])).run Tryd.prog W = .ok (.bool false) W := fun W => by kernel_rfl
/-- What Of leaves. -/
def OfP (w : World) (ws : List ByteArray) (ms : List Mg) (A B C : List Sp) (U : Bool) (e : Ending) (w' : World) : Prop :=
  ∃ p, e = .returned (.tuple #[.pointer p, .bool U, .bool true]) ∧ (U = true → ∃ g, p = some ⟨g, 0, none⟩ ∧ ModelAt w' w.heap.size g ws ms A B C) ∧ (U = false → p = none) ∧ Below w.heap.size w w'
set_option maxRecDepth 100000 in
set_option maxHeartbeats 4000000 in
theorem keepOf_any (aw am a b c : Option Addr) (cw cm ca cb cc : Nat) (ws : List ByteArray) (ms : List Mg) (A B C : List Sp) (w : World) (hwf : MWf ms) (hn : ws.length ≤ 4611686018427387) (hW : WSP w aw ws) (hM : MSP w am ms) (hA : Lst w a ca A) (hB : Lst w b cb B) (hC : Lst w c cc C) (hG : GL w) :
    Calls Tryd.prog 16 #[.agg #[.slice aw ws.length cw, .slice am ms.length cm, .slice a A.length ca, .slice b B.length cb, .slice c C.length cc]] w fun e w' => OfP w ws ms A B C (upB ws ms A B C) e w' := by
  have hD0 := DBox.new w (.slice aw ws.length cw) (.slice am ms.length cm) (.slice a A.length ca) (.slice b B.length cb) (.slice c C.length cc)
  have hb0 := box_below w (.cells #[.slice aw ws.length cw, .slice am ms.length cm, .slice a A.length ca, .slice b B.length cb, .slice c C.length cc] 42)
  have HW0 : Hid (WSP w aw ws) := hW
  have HM0 : Hid (MSP w am ms) := hM
  have HA0 : Hid (Lst w a ca A) := hA
  have HB0 : Hid (Lst w b cb B) := hB
  have HC0 : Hid (Lst w c cc C) := hC
  have HG0 : Hid (GL w) := hG
  have hL := fun wx => large_any aw am a b c ws.length cw ms.length cm A.length ca B.length cb C.length cc wx
  have hN := fun wx h1 h2 h3 h4 h5 h6 => mnew_any aw am a b c cw cm ca cb cc ws ms A B C wx hwf hn h1 h2 h3 h4 h5 h6
  have hK := fun wx h1 h2 h3 h4 h5 => refCheck5_any aw am a b c cw cm ca cb cc ws ms A B C wx hwf hn h1 h2 h3 h4 h5
  have hfe := fEq_zero
  clear hW hM hA hB hC hG
  have x0 := hD0.c0
  have x1 := hD0.c1
  have x2 := hD0.c2
  have x3 := hD0.c3
  have x4 := hD0.c4
  unfold upB
  obtain ⟨Lb, hLb⟩ : ∃ Lb, Lb = largeB ms.length := ⟨_, rfl⟩
  rw [← hLb] at hL ⊢
  have hnil := checkD_nil (ws := ws) (ms := ms) (A := A) (B := B) (C := C)
  obtain ⟨⟨y, li, ro⟩, hy⟩ : ∃ q, q = checkD ws ms A B C := ⟨_, rfl⟩
  rw [← hy] at hN hK hnil ⊢
  have HNIL : Hid (y = 0 → (y, li, ro) = (0, 0, 0)) := hnil
  unfold f3V at hN hK
  clear hLb hy hnil
  go_enter Tryd.func16, Tryd.ntmps16
  go_wp2_with fail
  obtain ⟨Y, hY⟩ : ∃ Y, Y = w.alloc (.cells #[.slice aw ws.length cw, .slice am ms.length cm, .slice a A.length ca, .slice b B.length cb, .slice c C.length cc] 42) := ⟨_, rfl⟩
  rw [← hY] at hD0 hb0 ⊢
  clear hY x0 x1 x2 x3 x4
  obtain ⟨z, hz⟩ : ∃ z, z = w.heap.size := ⟨_, rfl⟩
  rw [← hz] at hD0 hb0 ⊢
  have HZ : Hid (z = w.heap.size) := hz
  clear hz
  have hzY := hD0.lt
  refine (hL Y).mono ?_
  rintro e w1 ⟨rfl, hb1⟩
  have hD1 := hD0.below hb1 hzY
  have hB1 := hb0.trans (hb1.mono (Nat.le_of_lt hzY))
  have hz1 := hD1.lt
  clear hL hD0 hb0 hb1 hzY
  cases Lb with
  | true =>
    go_wp2_with fail
    exact bodyPost_ret (v := .tuple #[.pointer none, .bool false, .bool true]) (by simp [results, Tryd.results16, go_sem]) rfl ⟨none, rfl, (fun e => by cases e), fun _ => rfl, (by rw [← HZ.out]; exact hB1)⟩
  | false =>
    have x0 := hD1.c0
    have x1 := hD1.c1
    have x2 := hD1.c2
    have x3 := hD1.c3
    have x4 := hD1.c4
    have hB1' : Below w.heap.size w w1 := by rw [← HZ.out]; exact hB1
    go_wp2_with fail
    refine (hN w1 (HW0.out.below hB1') (HM0.out.below hB1') (HA0.out.below hB1') (HB0.out.below hB1') (HC0.out.below hB1') (HG0.out.below hB1')).mono ?_
    rintro e w2 ⟨p, rfl, hp1, hp2, hb2⟩
    simp only []
    have hD2 := hD1.below hb2 hz1
    have hB2 := hB1.trans (hb2.mono (Nat.le_of_lt hz1))
    have hz2 := hD2.lt
    have hsz2 := hb2.size
    have HP1 : Hid (y = 0 → ∃ g, p = some ⟨g, 0, none⟩ ∧ ModelAt w2 z g ws ms A B C) := fun h => by
      obtain ⟨g, h1, h2⟩ := hp1 h
      exact ⟨g, h1, h2.low (by omega)⟩
    have HP2 : Hid (y ≠ 0 → p = none) := hp2
    clear hN hp1 hp2 hb2 hD1 hB1 hB1' x0 x1 x2 x3 x4
    have hbn := box_below w2 (.cells #[.int .i64 (y : Nat), .int .i64 (li : Nat), .int .i64 (ro : Nat)] 26)
    have hF3 := Blk.new w2 (.cells #[.int .i64 (y : Nat), .int .i64 (li : Nat), .int .i64 (ro : Nat)] 26)
    have hD3 := hD2.below hbn hz2
    have hB3 := hB2.trans (hbn.mono (Nat.le_of_lt hz2))
    have HP3 : Hid (y = 0 → ∃ g, p = some ⟨g, 0, none⟩ ∧ ModelAt (w2.alloc (.cells #[.int .i64 (y : Nat), .int .i64 (li : Nat), .int .i64 (ro : Nat)] 26)) z g ws ms A B C) := fun h => by
      obtain ⟨g, h1, h2⟩ := HP1.out h
      exact ⟨g, h1, h2.below hbn⟩
    have x0 := hD3.c0
    have x1 := hD3.c1
    have x2 := hD3.c2
    have x3 := hD3.c3
    have x4 := hD3.c4
    clear hbn HP1 hD2 hB2
    go_wp2_with fail
    obtain ⟨W3, hW3⟩ : ∃ W3, W3 = w2.alloc (.cells #[.int .i64 (y : Nat), .int .i64 (li : Nat), .int .i64 (ro : Nat)] 26) := ⟨_, rfl⟩
    rw [← hW3] at hF3 hD3 hB3 HP3 ⊢
    clear hW3 x0 x1 x2 x3 x4
    obtain ⟨zf, hzf⟩ : ∃ zf, zf = w2.heap.size := ⟨_, rfl⟩
    rw [← hzf] at hF3 ⊢
    clear hzf
    have hB3' : Below w.heap.size w W3 := by rw [← HZ.out]; exact hB3
    have hz3 := hD3.lt
    refine (hK W3 (HW0.out.below hB3') (HM0.out.below hB3') (HA0.out.below hB3') (HB0.out.below hB3') (HC0.out.below hB3')).mono ?_
    rintro e w4 ⟨rfl, hb4⟩
    simp only []
    have hbn := box_below w4 (.cells #[.int .i64 (y : Nat), .int .i64 (li : Nat), .int .i64 (ro : Nat)] 92)
    have hF5 := (hF3.up hb4).up hbn
    have hC5 := Blk.new w4 (.cells #[.int .i64 (y : Nat), .int .i64 (li : Nat), .int .i64 (ro : Nat)] 92)
    have hB4 := hB3.trans (hb4.mono (Nat.le_of_lt hz3))
    have hB5 := hB4.trans (hbn.mono (Nat.le_trans (Nat.le_of_lt hz3) hb4.size))
    have HP5 : Hid (y = 0 → ∃ g, p = some ⟨g, 0, none⟩ ∧ ModelAt (w4.alloc (.cells #[.int .i64 (y : Nat), .int .i64 (li : Nat), .int .i64 (ro : Nat)] 92)) z g ws ms A B C) := fun h => by
      obtain ⟨g, h1, h2⟩ := HP3.out h
      exact ⟨g, h1, (h2.below hb4).below hbn⟩
    have f0 := hF5.cell 0
    have f1 := hF5.cell 1
    have f2 := hF5.cell 2
    have c0 := hC5.cell 0
    have c1 := hC5.cell 1
    have c2 := hC5.cell 2
    clear hK hF3 hD3 hB3 hB3' hb4 hbn hB4 HP3
    by_cases h0 : y = 0
    · obtain ⟨g, rfl, hMd⟩ := HP5.out h0
      have hq := HNIL.out h0
      simp only [Prod.mk.injEq] at hq
      obtain ⟨rfl, rfl, rfl⟩ := hq
      have HMd : Hid (ModelAt (w4.alloc (.cells #[.int .i64 ((0 : Nat) : Int), .int .i64 ((0 : Nat) : Int), .int .i64 ((0 : Nat) : Int)] 92)) z g ws ms A B C) := hMd
      rw [show ((0 : Nat) : Int) = 0 from rfl] at f0 f1 f2 c0 c1 c2 HMd hB5 ⊢
      clear HP5 HP2 HNIL hF5 hC5 hMd
      go_wp2_with fail
      exact bodyPost_ret (v := .tuple #[.pointer (some ⟨g, 0, none⟩), .bool true, .bool true]) (by simp [results, Tryd.results16, go_sem]) rfl ⟨some ⟨g, 0, none⟩, rfl, fun _ => ⟨g, rfl, (by rw [← HZ.out]; exact HMd.out)⟩, (fun e => by cases e), (by rw [← HZ.out]; exact hB5)⟩
    · obtain rfl := HP2.out h0
      have hd : decide (y = 0) = false := decide_eq_false h0
      have hne : ((y : Int) == 0) = false := by simp; omega
      have q1 : ((y : Int) == (y : Int)) = true := by simp
      have q2 : ((li : Int) == (li : Int)) = true := by simp
      have q3 : ((ro : Int) == (ro : Int)) = true := by simp
      have HD : Hid (decide (y = 0) = false) := hd
      clear HP5 HP2 HNIL hF5 hC5
      go_wp2_with fail
      go_quiet (fail)
      go_wp2_with fail
      refine bodyPost_ret (v := .tuple #[.pointer none, .bool false, .bool true]) (by simp [results, Tryd.results16, go_sem]) rfl ?_
      have hU : ∀ (w' : World), Below z w w' → OfP w ws ms A B C false (.returned (.tuple #[.pointer none, .bool false, .bool true])) w' := fun w' h => ⟨none, rfl, (fun e => by cases e), fun _ => rfl, (by rw [← HZ.out]; exact h)⟩
      first
        | exact hU _ (below_drewN hB5 _)
        | (rw [HD.out]; exact hU _ (below_drewN hB5 _))
end Go.Proofs.YtlnebbciefdpoaaDoor
