import Derived.Test.YtonbfcpbgkpbaaaGreatDoorJ17
import Derived.Test.YtonbfcpbgkpbaaaGreatDoorJ18
import Derived.Test.YtonbfcpbgkpbaaaGreatDoorRows
import Derived.Test.YtonbfcpbgkpbaaaGreatDoorJ13
import Derived.Test.YtonbfcpbgkpbaaaGreatDoorJ1
import Derived.Lib.SmallJoins
import Derived.Deep.SlicePairs
import Derived.SizedLaws
import Derived.Deep.Strs
section
/- RecipePrints: the walk. -/
namespace Go.Proofs.YtonbfcpbgkpbaaaGreatDoor
open Go.RowKit Go.Sort Go.Joins
set_option linter.unusedVariables false
set_option linter.unusedSimpArgs false
set_option maxRecDepth 100000
set_option maxHeartbeats 8000000 in
theorem prints_walk (aw am a b c : Option Addr) (cw cm ca cb cc : Nat) (ws : List ByteArray) (ms : List Mg) (A B C : List Sp) (w : World) (hD : PrD w aw am a b c ws ms A B C) (hW : ws.length ≤ 1048576) (hM : ms.length ≤ 1048576) (hbig : ∀ x ∈ ws, x.size ≤ 1048576) (hA : A.length ≤ 1048576) (hB : B.length ≤ 1048576) (hC : C.length ≤ 1048576) (hP : PT w) (hi64 : ∀ x ∈ ms, -9223372036854775808 ≤ x.i ∧ x.i ≤ 9223372036854775807) :
    Calls Tryz.prog 3 #[.agg #[.slice aw ws.length cw, .slice am ms.length cm, .slice a A.length ca, .slice b B.length cb, .slice c C.length cc]] w fun e w' => e = .returned (.bool true) ∧ Below w.heap.size w w' := by
  have hX := DBox.new w (.slice aw ws.length cw) (.slice am ms.length cm) (.slice a A.length ca) (.slice b B.length cb) (.slice c C.length cc)
  have hb0 := box_below w (.cells #[.slice aw ws.length cw, .slice am ms.length cm, .slice a A.length ca, .slice b B.length cb, .slice c C.length cc] 26)
  obtain ⟨Y, hY⟩ : ∃ Y, Y = w.alloc (.cells #[.slice aw ws.length cw, .slice am ms.length cm, .slice a A.length ca, .slice b B.length cb, .slice c C.length cc] 26) := ⟨_, rfl⟩
  rw [← hY] at hb0 hX
  have HY := Lib.hid hY
  have hDY := hD.below hb0
  have hPY : PT Y := hP.stays hb0
  have HB0 := Lib.hid hb0
  clear hY hb0 hP hD
  obtain ⟨z, hz⟩ : ∃ z, z = w.heap.size := ⟨_, rfl⟩
  have HZ := Lib.hid hz
  rw [← hz] at hX
  clear hz
  have HD := Lib.hid hX
  have HDY := Lib.hid hDY
  have HPY := Lib.hid hPY
  have HI64 := Lib.hid hi64
  have x0 := hX.c0
  have x1 := hX.c1
  have x2 := hX.c2
  have x3 := hX.c3
  have x4 := hX.c4
  obtain ⟨nw, hnw⟩ : ∃ nw, nw = ws.length := ⟨_, rfl⟩
  obtain ⟨nm, hnm⟩ : ∃ nm, nm = ms.length := ⟨_, rfl⟩
  have HNW := Lib.hid hnw
  have HNM := Lib.hid hnm
  by_cases hm : nw ≤ 100 ∧ nm ≤ 100
  · have hZ : PrZ ws ms A B C := ⟨hW, by omega, hbig, hA, hB, hC⟩
    have HSZ := Lib.hid hZ
    have hH := handed_any aw am a b c cw cm ca cb cc ws ms A B C Y (by omega) hDY.hW hDY.hM hDY.hA hDY.hB hDY.hC
    have hRP := fun wx (hbx : Below Y.heap.size Y wx) => rprint_any aw am a b c cw cm ca cb cc ws ms A B C wx (hDY.below hbx) hZ hi64
    have d0 : decide ((100 : Int) < (ws.length : Nat)) = false := decide_eq_false (by omega)
    have d1 : decide (100 < ws.length) = false := decide_eq_false (by omega)
    have d2 : decide ((100 : Int) < (ms.length : Nat)) = false := decide_eq_false (by omega)
    have d3 : decide (100 < ms.length) = false := decide_eq_false (by omega)
    clear hX hDY hPY hnw hnm hZ hi64
    go_enter Tryz.func3, Tryz.ntmps3
    go_upto_region 1 with fail
    rw [← HY.out, ← HZ.out]
    clear HY
    go_wp2_with fail
    refine hH.mono ?_
    rintro e w1 ⟨g0, g1, g2, g3, g4, gf, rfl, r0, r1, r2, r3, r4, hF, hb1⟩
    have bn := box_below w1 (.cells #[.slice (some ⟨g0, 0, none⟩) ws.length (ws.length + 80), .slice (some ⟨g1, 0, none⟩) ms.length (ms.length + 80), .slice (some ⟨g2, 0, none⟩) A.length (A.length + 80), .slice (some ⟨g3, 0, none⟩) B.length (B.length + 80), .slice (some ⟨g4, 0, none⟩) C.length (C.length + 80)] 26)
    have hD2 := DBox.new w1 (.slice (some ⟨g0, 0, none⟩) ws.length (ws.length + 80)) (.slice (some ⟨g1, 0, none⟩) ms.length (ms.length + 80)) (.slice (some ⟨g2, 0, none⟩) A.length (A.length + 80)) (.slice (some ⟨g3, 0, none⟩) B.length (B.length + 80)) (.slice (some ⟨g4, 0, none⟩) C.length (C.length + 80))
    have p0 := r0.below bn r0.lt
    have p1 := r1.below bn r1.lt
    have p2 := r2.below bn r2.lt
    have p3 := r3.below bn r3.lt
    have p4 := r4.below bn r4.lt
    have pF := hF.up bn
    have HB2 := Lib.hid (hb1.trans (bn.mono hb1.size))
    clear hH r0 r1 r2 r3 r4 hF hb1 bn x0 x1 x2 x3 x4
    have x0 := hD2.c0
    have x1 := hD2.c1
    have x2 := hD2.c2
    have x3 := hD2.c3
    have x4 := hD2.c4
    go_upto_region 4 with fail
    obtain ⟨W1, hW1⟩ : ∃ W1, W1 = w1.alloc (.cells #[.slice (some ⟨g0, 0, none⟩) ws.length (ws.length + 80), .slice (some ⟨g1, 0, none⟩) ms.length (ms.length + 80), .slice (some ⟨g2, 0, none⟩) A.length (A.length + 80), .slice (some ⟨g3, 0, none⟩) B.length (B.length + 80), .slice (some ⟨g4, 0, none⟩) C.length (C.length + 80)] 26) := ⟨_, rfl⟩
    rw [← hW1] at p0 p1 p2 p3 p4 pF HB2 x0 x1 x2 x3 x4 ⊢
    clear hW1 hD2
    have hPr := print_any (some ⟨g0, 0, none⟩) (some ⟨g1, 0, none⟩) (some ⟨g2, 0, none⟩) (some ⟨g3, 0, none⟩) (some ⟨g4, 0, none⟩) (ws.length + 80) (ms.length + 80) (A.length + 80) (B.length + 80) (C.length + 80) ws ms A B C W1 ⟨WSP.of_block p0, MSP.of_block p1, SPS.of_block p2, SPS.of_block p3, SPS.of_block p4⟩ HSZ.out (HPY.out.stays HB2.out)
    obtain ⟨R, hR⟩ : ∃ R, R = printF ws ms A B C := ⟨_, rfl⟩
    rw [← hR] at hPr
    simp only [← hR] at hRP
    clear hR
    obtain ⟨T, E⟩ := R
    dsimp only at hPr hRP
    obtain ⟨TX, hTX⟩ : ∃ t, t = textOf T := ⟨_, rfl⟩
    rw [← hTX] at hPr
    simp only [← hTX] at hRP
    clear hTX
    go_wp2_with fail
    refine hPr.mono ?_
    rintro e w2 ⟨rfl, hb2⟩
    have HB3 := Lib.hid (HB2.out.trans (hb2.mono HB2.out.size))
    have q0 := p0.below hb2 p0.lt
    have q1 := p1.below hb2 p1.lt
    have q2 := p2.below hb2 p2.lt
    have q3 := p3.below hb2 p3.lt
    have q4 := p4.below hb2 p4.lt
    have qF := pF.up hb2
    have hD3 := HD.out.below HB3.out HD.out.lt
    clear hPr hb2 p0 p1 p2 p3 p4 pF x0 x1 x2 x3 x4
    have x0 := hD3.c0
    have x1 := hD3.c1
    have x2 := hD3.c2
    have x3 := hD3.c3
    have x4 := hD3.c4
    clear hD3
    go_wp2_with fail
    refine (hRP w2 HB3.out).mono ?_
    rintro e w3 ⟨rfl, hb3⟩
    have HB4 := Lib.hid (HB3.out.trans (hb3.mono HB3.out.size))
    have hDY3 := HDY.out.below HB4.out
    have hI := frameIntact_any gf g0 g1 g2 g3 g4 aw am a b c cw cm ca cb cc ws ms A B C w3 (by omega) hDY3.hW hDY3.hM hDY3.hA hDY3.hB hDY3.hC (qF.up hb3) (q0.below hb3 q0.lt) (q1.below hb3 q1.lt) (q2.below hb3 q2.lt) (q3.below hb3 q3.lt) (q4.below hb3 q4.lt)
    have e1 : (TX.toList == TX.toList) = true := by simp
    have e2 : ((E : Int) == (E : Int)) = true := by simp
    clear hRP hb3 q0 q1 q2 q3 q4 qF x0 x1 x2 x3 x4 hDY3
    go_wp2_with fail
    refine hI.mono ?_
    rintro e w4 ⟨rfl, hb4⟩
    have HB5 := Lib.hid (HB4.out.trans (hb4.mono HB4.out.size))
    clear hI hb4
    go_wp2_with fail
    refine (known_any w4).mono ?_
    rintro e w5 ⟨rfl, hb5⟩
    have HB6 := Lib.hid (HB0.out.trans ((HB5.out.trans (hb5.mono HB5.out.size)).mono HB0.out.size))
    clear hb5
    go_wp2_with fail
    go_ret
    exact ⟨rfl, HB6.out⟩
  · clear hX hDY hPY hnw hnm hi64
    by_cases hw : nw ≤ 100
    · have d0 : decide ((100 : Int) < (ws.length : Nat)) = false := decide_eq_false (by have := HNW.out; omega)
      have d1 : decide (100 < ws.length) = false := decide_eq_false (by have := HNW.out; omega)
      have d2 : decide ((100 : Int) < (ms.length : Nat)) = true := decide_eq_true (by have := HNM.out; omega)
      have d3 : decide (100 < ms.length) = true := decide_eq_true (by have := HNM.out; omega)
      go_enter Tryz.func3, Tryz.ntmps3
      go_upto_region 1 with fail
      rw [← HY.out, ← HZ.out]
      clear HY
      go_wp2_with fail
      refine (known_any Y).mono ?_
      rintro e w5 ⟨rfl, hb5⟩
      have HB6 := Lib.hid (HB0.out.trans (hb5.mono HB0.out.size))
      clear hb5
      go_wp2_with fail
      go_ret
      exact ⟨rfl, HB6.out⟩
    · have d0 : decide ((100 : Int) < (ws.length : Nat)) = true := decide_eq_true (by have := HNW.out; omega)
      have d1 : decide (100 < ws.length) = true := decide_eq_true (by have := HNW.out; omega)
      go_enter Tryz.func3, Tryz.ntmps3
      go_upto_region 1 with fail
      rw [← HY.out, ← HZ.out]
      clear HY
      go_wp2_with fail
      refine (known_any Y).mono ?_
      rintro e w5 ⟨rfl, hb5⟩
      have HB6 := Lib.hid (HB0.out.trans (hb5.mono HB0.out.size))
      clear hb5
      go_wp2_with fail
      go_ret
      exact ⟨rfl, HB6.out⟩
end Go.Proofs.YtonbfcpbgkpbaaaGreatDoor
end
section
/- What the bound of the second form gives: of a list, of a text. -/
namespace Go.Proofs.YtonbfcpbgkpbaaaGreatDoor
theorem bulk_pos {H : Type} (d : DataW H) : 1 ≤ Rows.uptoBulk d := by
  cases d with
  | lit l => cases l <;> simp only [Rows.uptoBulk] <;> omega
  | nil => simp only [Rows.uptoBulk]; omega
  | ptr d => simp only [Rows.uptoBulk]; omega
  | slice e s => simp only [Rows.uptoBulk]; omega
  | agg p => simp only [Rows.uptoBulk]; omega
  | iface t d => simp only [Rows.uptoBulk]; omega
  | map e => simp only [Rows.uptoBulk]; omega
  | held h => simp only [Rows.uptoBulk]; omega
theorem bulk_count {H : Type} (l : List (DataW H)) : l.length ≤ Rows.uptoBulkAll l := by
  induction l with
  | nil => exact Nat.zero_le _
  | cons d r ih => have := bulk_pos d; simp only [Rows.uptoBulkAll, List.length_cons]; omega
theorem bulk_slice {H : Type} (e s : List (DataW H)) : e.length + s.length + 1 ≤ Rows.uptoBulk (.slice e s) := by
  have h1 := bulk_count e
  have h2 := bulk_count s
  simp only [Rows.uptoBulk]; omega
theorem bulk_text {H : Type} (s : ByteArray) : Rows.uptoBulk (DataW.lit (H := H) (.string s.data.toList)) = s.size + 1 := by
  have e : s.data.toList.length = s.size := Array.length_toList
  simp only [Rows.uptoBulk, e]
theorem bulk_bound {H : Type} {l : List (DataW H)} (hk : Rows.uptoSmall H l = true) : Rows.uptoBulkAll l ≤ 1048576 := of_decide_eq_true hk
end Go.Proofs.YtonbfcpbgkpbaaaGreatDoor
end
section
/- Models' data that came in: what they hold, how much at most (the second form's bound). -/
namespace Go.Proofs.YtonbfcpbgkpbaaaGreatDoor
open Go.ChangeShapes Go.WideShapes Go.ChangeAt Go.RowKit Go.Deep Go.Joins
set_option linter.unusedVariables false
/-- The numbers of merges fit. -/
def MI64 (ms : List Mg) : Prop := ∀ x ∈ ms, -9223372036854775808 ≤ x.i ∧ x.i ≤ 9223372036854775807
def fd0 : Field := Field.mk "Words" 22 0 false "" "" 0
def fd1 : Field := Field.mk "Merges" 23 1 false "" "" 24
def fd2 : Field := Field.mk "Letters" 24 2 false "" "" 48
def fd3 : Field := Field.mk "Numbers" 24 3 false "" "" 72
def fd4 : Field := Field.mk "Spaces" 24 4 false "" "" 96
theorem undD : Tryz.prog.underlying 26 = some (.struct #[fd0, fd1, fd2, fd3, fd4]) := by kernel_rfl
theorem cellsD : Tryz.prog.cellsOf 26 = 5 := by kernel_rfl
theorem cellsS30 : Tryz.prog.cellsOf 24 = 1 := by kernel_rfl
theorem cellsS44 : Tryz.prog.cellsOf 22 = 1 := by kernel_rfl
theorem cellsS45 : Tryz.prog.cellsOf 23 = 1 := by kernel_rfl
theorem cells9 : Tryz.prog.cellsOf 9 = 1 := by kernel_rfl
theorem cells3 : Tryz.prog.cellsOf 3 = 1 := by kernel_rfl
theorem cellsMg : Tryz.prog.cellsOf 39 = 3 := by kernel_rfl
def fg0 : Field := Field.mk "Left" 3 0 false "" "" 0
def fg1 : Field := Field.mk "Right" 3 1 false "" "" 8
def fg2 : Field := Field.mk "Id" 3 2 false "" "" 16
theorem undMg : Tryz.prog.underlying 39 = some (.struct #[fg0, fg1, fg2]) := by kernel_rfl
def fsLo : Field := Field.mk "Lo" 21 0 false "" "" 0
def fsHi : Field := Field.mk "Hi" 21 1 false "" "" 4
theorem undSp : Tryz.prog.underlying 41 = some (.struct #[fsLo, fsHi]) := by kernel_rfl
theorem cellsSp : Tryz.prog.cellsOf 41 = 2 := by kernel_rfl
theorem cellsI32 : Tryz.prog.cellsOf 21 = 1 := by kernel_rfl
theorem bulk_elems {H : Type} (e s : List (DataW H)) : Rows.uptoBulkAll e + 1 ≤ Rows.uptoBulk (.slice e s) := by simp only [Rows.uptoBulk]; omega
theorem bulk_mem {H : Type} {d : DataW H} {l : List (DataW H)} (h : d ∈ l) : Rows.uptoBulk d ≤ Rows.uptoBulkAll l := by
  induction l with
  | nil => cases h
  | cons x r ih =>
    simp only [Rows.uptoBulkAll]
    rcases List.mem_cons.1 h with rfl | h
    · omega
    · have := ih h; omega
section
variable {H : Type} {enc : TypeId × Value → H} {W : World} {x : DataW H × List MemPlace}
theorem open_spans {fuel : Nat} {a : Option Addr} {len cap : Nat} (h : DataW.trod enc Tryz.prog W 0 (fun _ => true) true fuel 24 (Value.slice a len cap).cells.toList = some x) :
    ∃ l : List Sp, len = l.length ∧ l.length ≤ cap ∧ cap ≤ 9223372036854775807 ∧ SPS W a l ∧ ∃ e s, x.1 = .slice e s ∧ e.length = l.length ∨ x.1 = .nil ∧ l = [] := by
  rcases open_slice_pairs Tryz.underlying24 undSp cellsSp rfl rfl cellsI32 cellsI32 h with ⟨hcs, rfl⟩ | ⟨b, n, c, m, k, V0, V1, D0, D1, P0, P1, hcs, _, hl, hm, hmm, rfl, hel⟩
  · simp [Value.cells] at hcs
    obtain ⟨rfl, rfl, rfl⟩ := hcs
    exact ⟨[], rfl, Nat.le_refl _, by omega, .inl rfl, [], [], .inr ⟨rfl, rfl⟩⟩
  · simp [Value.cells] at hcs
    obtain ⟨rfl, rfl, rfl⟩ := hcs
    simp only [if_true] at hmm
    subst hmm
    unfold maxLen at hm
    have each : ∀ i, i < len → ∃ q : Sp, W.cell? (b.add (i * 2)) = some (.int .i32 q.lo) ∧ W.cell? (b.add (i * 2 + 1)) = some (.int .i32 q.hi) := by
      intro i hi
      obtain ⟨h0, h1, h2, h3⟩ := hel i (by omega)
      obtain ⟨n0, e0, _, _⟩ := DataW.trod_int Tryz.underlying21 h2
      obtain ⟨n1, e1, _, _⟩ := DataW.trod_int Tryz.underlying21 h3
      simp at e0 e1
      exact ⟨⟨n0, n1⟩, by rw [h0, e0], by rw [h1, e1]⟩
    haveI : Inhabited Sp := ⟨⟨0, 0⟩⟩
    obtain ⟨q, hq⟩ := choose_lt each
    refine ⟨(List.range len).map q, by simp, by simpa using hl, hm, ?_, _, _, .inl ⟨rfl, by simp⟩⟩
    by_cases h0 : len = 0
    · subst h0; exact .inl rfl
    · obtain ⟨blk, off, spot⟩ := b
      have hspot : spot = none := by simpa [Addr.add] using World.cell?_spot (hq 0 (by omega)).1
      subst hspot
      refine .inr ⟨blk, off, rfl, fun i y hy => ?_⟩
      have hi : i < len := by
        have := (List.getElem?_eq_some_iff.1 hy).1
        simpa using this
      rw [List.getElem?_map, List.getElem?_range hi] at hy
      obtain rfl : q i = y := by simpa using hy
      obtain ⟨h1, h2⟩ := hq i hi
      rw [add_plain] at h1 h2
      exact ⟨h1, by rw [Nat.add_assoc]; exact h2⟩
theorem one_slice {t e : TypeId} (ht : Tryz.prog.underlying t = some (.slice e)) {fuel : Nat} {v : Value} {y : DataW H × List MemPlace} (h : DataW.trod enc Tryz.prog W 0 (fun _ => true) true fuel t [v] = some y) : ∃ a n c, v = .slice a n c := by
  rcases DataW.trod_slice ht h with ⟨h1, _⟩ | ⟨a, n, c, _, _, _, _, h1, _⟩
  · exact ⟨none, 0, 0, by simpa using h1⟩
  · exact ⟨some a, n, c, by simpa using h1⟩
/-- What a reading says of a list's weight. -/
def WtN (y : DataW H) (n : Nat) : Prop := ∃ e s, y = .slice e s ∧ e.length = n ∨ y = .nil ∧ n = 0
theorem open_words {fuel : Nat} {a : Option Addr} {len cap : Nat} (h : DataW.trod enc Tryz.prog W 0 (fun _ => true) true fuel 22 [Value.slice a len cap] = some x) :
    ∃ l : List ByteArray, len = l.length ∧ l.length ≤ cap ∧ cap ≤ 9223372036854775807 ∧ WSP W a l ∧ WtN x.1 l.length ∧ ∀ y ∈ l, y.size ≤ Rows.uptoBulk x.1 := by
  rcases open_strs Tryz.underlying22 Tryz.underlying9 cells9 h with ⟨hcs, rfl⟩ | ⟨b, n, c, m, Sx, hcs, _, hl, hm, hmm, rfl, hel⟩
  · simp at hcs
    obtain ⟨rfl, rfl, rfl⟩ := hcs
    exact ⟨[], rfl, Nat.le_refl _, by omega, .inl rfl, ⟨[], [], .inr ⟨rfl, rfl⟩⟩, fun y hy => by simp at hy⟩
  · simp at hcs
    obtain ⟨rfl, rfl, rfl⟩ := hcs
    simp only [if_true] at hmm
    subst hmm
    unfold maxLen at hm
    refine ⟨(List.range len).map Sx, by simp, by simpa using hl, hm, ?_, ⟨_, _, .inl ⟨rfl, by simp⟩⟩, fun y hy => by
      obtain ⟨i, hi, rfl⟩ := List.mem_map.1 hy
      have h1 := bulk_text (H := H) (Sx i)
      have h2 := bulk_mem (H := H) (d := .lit (.string (Sx i).data.toList)) (l := (List.range len).map fun i => .lit (.string (Sx i).data.toList)) (List.mem_map.2 ⟨i, hi, rfl⟩)
      refine Nat.le_trans (?_ : _ ≤ Rows.uptoBulkAll ((List.range len).map fun i => .lit (.string (Sx i).data.toList)) + 1) (bulk_elems _ _)
      omega⟩
    by_cases h0 : len = 0
    · subst h0; exact .inl rfl
    · obtain ⟨blk, off, spot⟩ := b
      have hspot : spot = none := by simpa [Addr.add] using World.cell?_spot (hel 0 (by omega)).1
      subst hspot
      refine .inr ⟨blk, off, rfl, fun i y hy => ?_⟩
      have hi : i < len := by
        have := (List.getElem?_eq_some_iff.1 hy).1
        simpa using this
      rw [List.getElem?_map, List.getElem?_range hi] at hy
      obtain rfl : Sx i = y := by simpa using hy
      have h1 := (hel i (by omega)).1
      rw [add_plain] at h1
      exact h1
set_option maxRecDepth 100000 in
theorem open_merges {fuel : Nat} {a : Option Addr} {len cap : Nat} (h : DataW.trod enc Tryz.prog W 0 (fun _ => true) true fuel 23 [Value.slice a len cap] = some x) :
    ∃ l : List Mg, len = l.length ∧ l.length ≤ cap ∧ cap ≤ 9223372036854775807 ∧ (MSP W a l ∧ MI64 l) ∧ WtN x.1 l.length := by
  rcases open_slice Tryz.underlying23 h with ⟨hcs, rfl⟩ | ⟨b, n, c, m, k, D, Pl, hcs, _, hl, hm, hmm, rfl, hel⟩
  · simp at hcs
    obtain ⟨rfl, rfl, rfl⟩ := hcs
    exact ⟨[], rfl, Nat.le_refl _, by omega, ⟨.inl rfl, fun x hx => by simp at hx⟩, [], [], .inr ⟨rfl, rfl⟩⟩
  · simp at hcs
    obtain ⟨rfl, rfl, rfl⟩ := hcs
    simp only [if_true] at hmm
    subst hmm
    unfold maxLen at hm
    have each : ∀ i, i < len → ∃ q : Mg, W.cell? (b.add (i * 3)) = some (.int .i64 q.l) ∧ W.cell? (b.add (i * 3 + 1)) = some (.int .i64 q.r) ∧ W.cell? (b.add (i * 3 + 2)) = some (.int .i64 q.i) ∧ (-9223372036854775808 ≤ q.i ∧ q.i ≤ 9223372036854775807) := by
      intro i hi
      obtain ⟨cs', h1, h2⟩ := hel i (by omega)
      rw [cellsMg] at h1
      obtain ⟨_, hlen, hcell⟩ := World.cells?_some h1
      obtain ⟨xs, k', hk, hxy, _, hxl, hf⟩ := DataW.trod_struct undMg h2
      match xs, hxl, cs', hlen with
      | [y0, y1, y2], _, [v0, v1, v2], _ =>
        have g0 := hf 0 fg0 rfl
        have g1 := hf 1 fg1 rfl
        have g2 := hf 2 fg2 rfl
        simp [fg0, fg1, fg2, cells3] at g0 g1 g2
        have e0 := hcell 0 (by omega)
        have e1 := hcell 1 (by omega)
        have e2 := hcell 2 (by omega)
        rw [add_add] at e0 e1 e2
        obtain ⟨n0, q0, -, w0⟩ := DataW.trod_int Tryz.underlying3 g0
        obtain ⟨n1, q1, -, w1⟩ := DataW.trod_int Tryz.underlying3 g1
        obtain ⟨n2, q2, -, w2⟩ := DataW.trod_int Tryz.underlying3 g2
        simp at q0 q1 q2
        subst q0 q1 q2
        simp [Lit.wf, IntKind.min, IntKind.max, IntKind.signed, IntKind.bits] at w0 w1 w2
        exact ⟨⟨n0, n1, n2⟩, by simpa using e0, by simpa using e1, by simpa using e2, by constructor <;> (dsimp only; omega)⟩
    haveI : Inhabited Mg := ⟨⟨0, 0, 0⟩⟩
    obtain ⟨q, hq⟩ := choose_lt each
    refine ⟨(List.range len).map q, by simp, by simpa using hl, hm, ⟨?_, ?_⟩, _, _, .inl ⟨rfl, by simp⟩⟩
    · by_cases h0 : len = 0
      · subst h0; exact .inl rfl
      · obtain ⟨blk, off, spot⟩ := b
        have hspot : spot = none := by simpa [Addr.add] using World.cell?_spot (hq 0 (by omega)).1
        subst hspot
        refine .inr ⟨blk, off, rfl, fun i y hy => ?_⟩
        have hi : i < len := by
          have := (List.getElem?_eq_some_iff.1 hy).1
          simpa using this
        rw [List.getElem?_map, List.getElem?_range hi] at hy
        obtain rfl : q i = y := by simpa using hy
        obtain ⟨h1, h2, h3, -⟩ := hq i hi
        rw [add_plain] at h1 h2 h3
        exact ⟨h1, by rw [Nat.add_assoc]; exact h2, by rw [Nat.add_assoc]; exact h3⟩
    · intro y hy
      obtain ⟨i, hi, rfl⟩ := List.mem_map.1 hy
      exact (hq i (List.mem_range.1 hi)).2.2.2
set_option maxRecDepth 100000 in
theorem open_mdata {fuel : Nat} {v : Value} (hv : Value.okWide Tryz.prog W .any 0 26 v) (h : DataW.trod enc Tryz.prog W 0 (fun _ => true) true fuel 26 v.cells.toList = some x) :
    ∃ aw cw am cm a ca b cb c cc, ∃ (ws : List ByteArray) (ms : List Mg) (A B C : List Sp), v = .agg #[.slice aw ws.length cw, .slice am ms.length cm, .slice a A.length ca, .slice b B.length cb, .slice c C.length cc] ∧ WSP W aw ws ∧ (MSP W am ms ∧ MI64 ms) ∧ SPS W a A ∧ SPS W b B ∧ SPS W c C ∧
      ∃ y0 y1 y2 y3 y4, x.1 = .agg [y0, y1, y2, y3, y4] ∧ WtN y0 ws.length ∧ WtN y1 ms.length ∧ WtN y2 A.length ∧ WtN y3 B.length ∧ WtN y4 C.length ∧ ∀ y ∈ ws, y.size ≤ Rows.uptoBulk y0 := by
  obtain ⟨cs, rfl, hsz⟩ := okWide_struct undD hv
  rw [cellsD] at hsz
  obtain ⟨v0, v1, v2, v3, v4, rfl⟩ : ∃ v0 v1 v2 v3 v4, cs = #[v0, v1, v2, v3, v4] := by
    obtain ⟨l⟩ := cs
    have hl : l.length = 5 := hsz
    cases l with
    | nil => simp at hl
    | cons v0 l => cases l with
      | nil => simp at hl
      | cons v1 l => cases l with
        | nil => simp at hl
        | cons v2 l => cases l with
          | nil => simp at hl
          | cons v3 l => cases l with
            | nil => simp at hl
            | cons v4 l => cases l with
              | nil => exact ⟨_, _, _, _, _, rfl⟩
              | cons _ _ => simp at hl
  obtain ⟨xs, n, rfl, hx, -, hn, hel⟩ := DataW.trod_struct undD h
  have h0 := hel 0 fd0 rfl
  have h1 := hel 1 fd1 rfl
  have h2 := hel 2 fd2 rfl
  have h3 := hel 3 fd3 rfl
  have h4 := hel 4 fd4 rfl
  simp only [Value.cells, fd0, fd1, fd2, fd3, fd4, cellsS30, cellsS44, cellsS45, List.drop_zero, List.drop_succ_cons, List.take_succ_cons, List.take_zero] at h0 h1 h2 h3 h4
  have hn : xs.length = 5 := hn
  have g0 : xs[0]? = some xs[0] := List.getElem?_eq_getElem (by omega)
  have g1 : xs[1]? = some xs[1] := List.getElem?_eq_getElem (by omega)
  have g2 : xs[2]? = some xs[2] := List.getElem?_eq_getElem (by omega)
  have g3 : xs[3]? = some xs[3] := List.getElem?_eq_getElem (by omega)
  have g4 : xs[4]? = some xs[4] := List.getElem?_eq_getElem (by omega)
  rw [g0] at h0
  rw [g1] at h1
  rw [g2] at h2
  rw [g3] at h3
  rw [g4] at h4
  obtain ⟨s0, n0, c0, rfl⟩ := one_slice Tryz.underlying22 h0
  obtain ⟨s1, n1, c1, rfl⟩ := one_slice Tryz.underlying23 h1
  obtain ⟨a, na, ca, rfl⟩ := one_slice Tryz.underlying24 h2
  obtain ⟨b, nb, cb, rfl⟩ := one_slice Tryz.underlying24 h3
  obtain ⟨c, nc, cc, rfl⟩ := one_slice Tryz.underlying24 h4
  obtain ⟨ws, rfl, -, -, w3, ew, eb0⟩ := open_words h0
  obtain ⟨ms, rfl, -, -, m3, em⟩ := open_merges h1
  obtain ⟨A, rfl, a1, a2, a3, ea⟩ := open_spans (a := a) (len := na) (cap := ca) h2
  obtain ⟨B, rfl, b1, b2, b3, eb⟩ := open_spans (a := b) (len := nb) (cap := cb) h3
  obtain ⟨C, rfl, c1', c2, c3, ec⟩ := open_spans (a := c) (len := nc) (cap := cc) h4
  have wt : ∀ {y : DataW H} {l : List Sp}, (∃ e s, y = .slice e s ∧ e.length = l.length ∨ y = .nil ∧ l = []) → WtN y l.length := fun h => by
    obtain ⟨e, s, ⟨h1, h2⟩ | ⟨h1, h2⟩⟩ := h
    · exact ⟨e, s, .inl ⟨h1, h2⟩⟩
    · exact ⟨e, s, .inr ⟨h1, by rw [h2]; rfl⟩⟩
  refine ⟨s0, c0, s1, c1, a, ca, b, cb, c, cc, ws, ms, A, B, C, rfl, w3, m3, a3, b3, c3, (xs[0]).1, (xs[1]).1, (xs[2]).1, (xs[3]).1, (xs[4]).1, ?_, ew, em, wt ea, wt eb, wt ec, eb0⟩
  rw [hx]
  simp only
  congr 1
  apply List.ext_getElem (by simpa using hn)
  intro i hi hi'
  have hi5 : i < 5 := by simpa using hi'
  rcases (show i = 0 ∨ i = 1 ∨ i = 2 ∨ i = 3 ∨ i = 4 by omega) with rfl | rfl | rfl | rfl | rfl <;> simp
theorem wt_bulk {y : DataW H} {n : Nat} (h : WtN y n) : n ≤ Rows.uptoBulk y := by
  obtain ⟨e, s, ⟨rfl, h2⟩ | ⟨rfl, h2⟩⟩ := h
  · have := bulk_slice (H := H) e s
    omega
  · rw [h2]; exact Nat.zero_le _
/-- What the bound says of data. -/
theorem data_bulk {y0 y1 y2 y3 y4 : DataW H} {d : DataW H} {l : List (DataW H)} {n0 n1 n2 n3 n4 : Nat} (hk : Rows.uptoSmall H l = true) (hd : d = .agg [y0, y1, y2, y3, y4]) (hm : d ∈ l) (w0 : WtN y0 n0) (w1 : WtN y1 n1) (w2 : WtN y2 n2) (w3 : WtN y3 n3) (w4 : WtN y4 n4) :
    n0 ≤ 1048576 ∧ n1 ≤ 1048576 ∧ n2 ≤ 1048576 ∧ n3 ≤ 1048576 ∧ n4 ≤ 1048576 ∧ Rows.uptoBulk y0 ≤ 1048576 := by
  have h1 := bulk_bound hk
  have h2 := bulk_mem hm
  rw [hd] at h2
  simp only [Rows.uptoBulk, Rows.uptoBulkAll] at h2
  have := wt_bulk w0
  have := wt_bulk w1
  have := wt_bulk w2
  have := wt_bulk w3
  have := wt_bulk w4
  omega
end
end Go.Proofs.YtonbfcpbgkpbaaaGreatDoor
end
