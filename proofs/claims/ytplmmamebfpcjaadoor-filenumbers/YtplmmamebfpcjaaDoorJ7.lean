import Derived.Test.YtplmmamebfpcjaaDoorJ5
import Derived.Test.YtplmmamebfpcjaaDoorJ6
import Derived.Lib.QuietBelow
import Derived.Test.YtplmmamebfpcjaaDoorJ4
section
/- strings.Clone, model.copied: their contracts. -/
namespace Go.Proofs.YtplmmamebfpcjaaDoor
open Go.RowKit Go.Sort Go.Joins
theorem infoB : (Tryd.prog.info? 5).map (fun i => (i.zero, i.size, i.bytes)) = some (some (.int .u8 0), 1, 1) := by kernel_rfl
theorem sizeB : (Tryd.prog.info? 5).map (·.size) = some 1 := by kernel_rfl
set_option maxHeartbeats 4000000 in
set_option maxRecDepth 100000 in
theorem slclone_any (s : ByteArray) (w : World) (hlim : s.size ≤ 140737488355328) :
    Calls Tryd.prog 55 #[.string s] w fun e w' => e = .returned (.string s) ∧ Below w.heap.size w w' := by
  by_cases h0 : s.size = 0
  · have hs : s = ⟨#[]⟩ := by
      apply ByteArray.ext
      exact Array.eq_empty_of_size_eq_zero h0
    subst hs
    go_enter Tryd.func55, Tryd.ntmps55
    go_wp2_with fail
    go_ret
    exact ⟨rfl, Below.refl _ _⟩
  · obtain ⟨i0, hi, hz0, hz1, hz2⟩ := info_parts infoB
    have hco : Tryd.prog.cellsOf 5 = 1 := by kernel_rfl
    obtain ⟨M, hM⟩ : ∃ M, M = madeCells (Value.int .u8 0).cells (((s.size : Nat) : Int).toNat * i0.size) := ⟨_, rfl⟩
    have hMs : M.size = s.size := by rw [hM, size_madeCells, hz1]; simp
    have hmk : ∀ W : World, (Instr.makeSlice 22 (.int .i64 (s.size : Int)) (.int .i64 (s.size : Int))).run Tryd.prog W = .ok (.slice (some ⟨W.heap.size, 0, none⟩) s.size s.size) (W.alloc (.cells M 5)) := fun W => by
      have h := run_make (P := Tryd.prog) W 22 5 i0 (.int .u8 0) Tryd.underlying22 hi hz0 .i64 .i64 (s.size : Int) (s.size : Int) (by omega) (by omega) (by rw [hz2]; omega) (by omega)
      rw [← hM] at h
      simpa using h
    clear hM
    have hcp := Lib.run_copy_row_string (P := Tryd.prog) (w.alloc (.cells M 5)) 22 9 3 5 w.heap.size 0 s.size s.size s M 5 Tryd.underlying22 sizeB (heap_alloc_new w _) (Nat.le_refl _) (by omega)
    obtain ⟨Y, hY⟩ : ∃ Y, Y = (M.toList.take 0 ++ Lib.byteCells s.data.toList ++ M.toList.drop (0 + s.size)).toArray := ⟨_, rfl⟩
    rw [← hY] at hcp
    have hYl : Y.toList = Lib.byteCells s.data.toList := by
      rw [hY, List.toList_toArray, List.take_zero, List.nil_append, List.drop_of_length_le (by rw [Array.length_toList]; omega), List.append_nil]
    have hYs : Y.size = s.size := by rw [← Array.length_toList, hYl, Lib.byteCells_length, ← Lib.size_eq]
    have hgY : ((w.alloc (.cells M 5)).setRow w.heap.size Y).heap[w.heap.size]? = some (.cells Y 5 (0, 0)) := setRow_heap _ _ M _ 5 (0, 0) (heap_alloc_new w _)
    have hne : s.data.toList ≠ [] := fun e => h0 (by rw [Lib.size_eq, e]; rfl)
    have hUS := Lib.run_unsafeString_row (P := Tryd.prog) ((w.alloc (.cells M 5)).setRow w.heap.size Y) 133 3 9 5 Tryd.underlying133 hco w.heap.size Y.size (by unfold World.shape?; rw [hgY]) s.data.toList hne (by rw [← Lib.size_eq]; omega) (by rw [← Lib.size_eq]; omega)
      (fun j x hx => Lib.cells_of_row hgY Y.size j _ (by rw [List.take_of_length_le (by rw [Array.length_toList]; exact Nat.le_refl _), hYl]; simp [Lib.byteCells, hx]))
    rw [← Lib.size_eq] at hUS
    clear hY
    go_enter Tryd.func55, Tryd.ntmps55
    go_wp2
    go_ret
    have hb1 := box_below w (.cells M 5)
    have hb2 : Below w.heap.size (w.alloc (.cells M 5)) ((w.alloc (.cells M 5)).setRow w.heap.size Y) := ⟨rfl, rfl, rfl, by simp, fun k hk => setRow_other _ _ _ _ (by omega)⟩
    exact ⟨rfl, Lib.below_freeze (hb1.trans hb2) (p := ⟨w.heap.size, 0, none⟩) (Nat.le_refl _) _⟩
set_option maxHeartbeats 1000000 in
theorem sclone_any (s : ByteArray) (w : World) (hlim : s.size ≤ 140737488355328) :
    Calls Tryd.prog 40 #[.string s] w fun e w' => e = .returned (.string s) ∧ Below w.heap.size w w' := by
  go_enter Tryd.func40, Tryd.ntmps40
  go_wp2_with fail
  refine (slclone_any s _ hlim).mono ?_
  rintro e w1 ⟨rfl, hb⟩
  go_wp2_with fail
  go_ret
  exact ⟨rfl, hb⟩
/-- One cell of a block of data written. -/
theorem DBox.set {w : World} {z : Nat} {v0 v1 v2 v3 v4 : Value} (h : DBox w z v0 v1 v2 v3 v4) (i : Nat) (u : Value) : (w.setCell ⟨z, i, none⟩ u).heap[z]? = some (.cells (#[v0, v1, v2, v3, v4].setIfInBounds i u) 45 (0, 0)) := block_setCell h u
theorem DBox.s0 {w : World} {z : Nat} {v0 v1 v2 v3 v4 : Value} (h : DBox w z v0 v1 v2 v3 v4) (u : Value) : DBox (w.setCell ⟨z, 0, none⟩ u) z u v1 v2 v3 v4 := h.set 0 u
theorem DBox.s1 {w : World} {z : Nat} {v0 v1 v2 v3 v4 : Value} (h : DBox w z v0 v1 v2 v3 v4) (u : Value) : DBox (w.setCell ⟨z, 1, none⟩ u) z v0 u v2 v3 v4 := h.set 1 u
theorem DBox.s2 {w : World} {z : Nat} {v0 v1 v2 v3 v4 : Value} (h : DBox w z v0 v1 v2 v3 v4) (u : Value) : DBox (w.setCell ⟨z, 2, none⟩ u) z v0 v1 u v3 v4 := h.set 2 u
theorem DBox.s3 {w : World} {z : Nat} {v0 v1 v2 v3 v4 : Value} (h : DBox w z v0 v1 v2 v3 v4) (u : Value) : DBox (w.setCell ⟨z, 3, none⟩ u) z v0 v1 v2 u v4 := h.set 3 u
theorem DBox.s4 {w : World} {z : Nat} {v0 v1 v2 v3 v4 : Value} (h : DBox w z v0 v1 v2 v3 v4) (u : Value) : DBox (w.setCell ⟨z, 4, none⟩ u) z v0 v1 v2 v3 u := h.set 4 u
theorem DBox.other {w : World} {z : Nat} {v0 v1 v2 v3 v4 : Value} (h : DBox w z v0 v1 v2 v3 v4) {g o : Nat} (hg : g ≠ z) (u : Value) : DBox (w.setCell ⟨g, o, none⟩ u) z v0 v1 v2 v3 v4 :=
  (Below.heap_setCell w ⟨g, o, none⟩ u z (fun e => hg (by have e' : z = g := e; omega))).trans h
/-- The word that stands there is written there. -/
theorem OwnW.same {w : World} {lo c g k : Nat} {a : Option Addr} {l : List ByteArray} {x : ByteArray} (h : OwnW w lo a c l) (ha : a = some ⟨g, 0, none⟩) (hx : l[k]? = some x) : OwnW (w.setCell ⟨g, k, none⟩ (.string x)) lo a c l := by
  refine ⟨h.le, h.cap, ?_⟩
  rcases h.row with h | ⟨g', cur, h1, h2, h3, h4, h5⟩
  · exact .inl h
  · rw [ha] at h1
    cases h1
    refine .inr ⟨g, _, ha, h2, block_setCell h3 _, by simpa using h4, fun i y hy => ?_⟩
    by_cases e : k = i
    · subst e
      have e2 := h5 k y hy
      rw [hx] at hy
      cases hy
      rw [Array.getElem?_setIfInBounds_self_of_lt (Array.getElem?_eq_some_iff.1 e2).1]
    · rw [Array.getElem?_setIfInBounds_ne e]
      exact h5 i y hy
/-- Its block lies under s, if it has one. -/
def Und (a : Option Addr) (c s : Nat) : Prop := c = 0 ∨ ∃ g, a = some ⟨g, 0, none⟩ ∧ g < s
theorem OwnS.und {w : World} {lo c : Nat} {a : Option Addr} {l : List Sp} (h : OwnS w lo a c l) : Und a c w.heap.size := by
  rcases h.row with ⟨h, -⟩ | ⟨g, cur, h1, h2, h3, -⟩
  · exact .inl h
  · exact .inr ⟨g, h1, (Array.getElem?_eq_some_iff.1 h3).1⟩
/-- Data of one's own: five lists, each in a block of its own. -/
structure OwnD (w : World) (lo : Nat) (a0 : Option Addr) (c0 : Nat) (a1 : Option Addr) (c1 : Nat) (a2 : Option Addr) (c2 : Nat) (a3 : Option Addr) (c3 : Nat) (a4 : Option Addr) (c4 : Nat) (ws : List ByteArray) (ms : List Mg) (A B C : List Sp) : Prop where
  words : OwnW w lo a0 c0 ws
  merges : OwnM w lo a1 c1 ms
  spans : ∃ s3 s4, lo ≤ s3 ∧ s3 ≤ s4 ∧ OwnS w lo a2 c2 A ∧ Und a2 c2 s3 ∧ OwnS w s3 a3 c3 B ∧ Und a3 c3 s4 ∧ OwnS w s4 a4 c4 C
theorem OwnD.below {w w' : World} {lo : Nat} {a0 : Option Addr} {c0 : Nat} {a1 : Option Addr} {c1 : Nat} {a2 : Option Addr} {c2 : Nat} {a3 : Option Addr} {c3 : Nat} {a4 : Option Addr} {c4 : Nat} {ws : List ByteArray} {ms : List Mg} {A B C : List Sp} (h : OwnD w lo a0 c0 a1 c1 a2 c2 a3 c3 a4 c4 ws ms A B C) (hb : Below w.heap.size w w') : OwnD w' lo a0 c0 a1 c1 a2 c2 a3 c3 a4 c4 ws ms A B C := by
  obtain ⟨h1, h2, s3, s4, e1, e2, p1, p2, p3, p4, p5⟩ := h
  exact ⟨h1.below hb, h2.below hb, s3, s4, e1, e2, p1.below hb, p2, p3.below hb, p4, p5.below hb⟩
theorem OwnD.low {w : World} {lo lo' : Nat} {a0 : Option Addr} {c0 : Nat} {a1 : Option Addr} {c1 : Nat} {a2 : Option Addr} {c2 : Nat} {a3 : Option Addr} {c3 : Nat} {a4 : Option Addr} {c4 : Nat} {ws : List ByteArray} {ms : List Mg} {A B C : List Sp} (h : OwnD w lo a0 c0 a1 c1 a2 c2 a3 c3 a4 c4 ws ms A B C) (hl : lo' ≤ lo) : OwnD w lo' a0 c0 a1 c1 a2 c2 a3 c3 a4 c4 ws ms A B C := by
  obtain ⟨h1, h2, s3, s4, e1, e2, p1, p2, p3, p4, p5⟩ := h
  exact ⟨h1.low hl, h2.low hl, s3, s4, by omega, e2, p1.low hl, p2, p3, p4, p5⟩
theorem OwnD.away {w : World} {lo : Nat} {a0 : Option Addr} {c0 : Nat} {a1 : Option Addr} {c1 : Nat} {a2 : Option Addr} {c2 : Nat} {a3 : Option Addr} {c3 : Nat} {a4 : Option Addr} {c4 : Nat} {ws : List ByteArray} {ms : List Mg} {A B C : List Sp} (h : OwnD w lo a0 c0 a1 c1 a2 c2 a3 c3 a4 c4 ws ms A B C) {b o : Nat} (hb : b < lo) (v : Value) : OwnD (w.setCell ⟨b, o, none⟩ v) lo a0 c0 a1 c1 a2 c2 a3 c3 a4 c4 ws ms A B C := by
  obtain ⟨h1, h2, s3, s4, e1, e2, p1, p2, p3, p4, p5⟩ := h
  exact ⟨h1.away hb v, h2.away hb v, s3, s4, e1, e2, p1.away hb v, p2, p3.away (by omega) v, p4, p5.away (by omega) v⟩
set_option maxRecDepth 100000 in
set_option maxHeartbeats 4000000 in
theorem copied_any (aw am a b c : Option Addr) (cw cm ca cb cc : Nat) (ws : List ByteArray) (ms : List Mg) (A B C : List Sp) (w : World) (hn : ws.length ≤ 8796093022208) (hm : ms.length ≤ 5864062014805) (hA : A.length ≤ 17592186044416) (hB : B.length ≤ 17592186044416) (hC : C.length ≤ 17592186044416) (hz6 : ∀ (i : Nat) (x : ByteArray), ws[i]? = some x → x.size ≤ 256)
    (h0 : WSP w aw ws) (h1 : MSP w am ms) (h2 : SPS w a A) (h3 : SPS w b B) (h4 : SPS w c C) :
    Calls Tryd.prog 23 #[.agg #[.slice aw ws.length cw, .slice am ms.length cm, .slice a A.length ca, .slice b B.length cb, .slice c C.length cc]] w fun e w' => ∃ a0 c0 a1 c1 a2 c2 a3 c3 a4 c4, e = .returned (.agg #[.slice a0 ws.length c0, .slice a1 ms.length c1, .slice a2 A.length c2, .slice a3 B.length c3, .slice a4 C.length c4]) ∧ OwnD w' w.heap.size a0 c0 a1 c1 a2 c2 a3 c3 a4 c4 ws ms A B C ∧ Below w.heap.size w w' := by
  have hD := DBox.new w (.slice aw ws.length cw) (.slice am ms.length cm) (.slice a A.length ca) (.slice b B.length cb) (.slice c C.length cc)
  have hb := box_below w (.cells #[.slice aw ws.length cw, .slice am ms.length cm, .slice a A.length ca, .slice b B.length cb, .slice c C.length cc] 45)
  have hR := DBox.new (w.alloc (.cells #[.slice aw ws.length cw, .slice am ms.length cm, .slice a A.length ca, .slice b B.length cb, .slice c C.length cc] 45)) (.slice none 0 0) (.slice none 0 0) (.slice none 0 0) (.slice none 0 0) (.slice none 0 0)
  have hb2 := hb.alloc hb.size (.cells #[.slice none 0 0, .slice none 0 0, .slice none 0 0, .slice none 0 0, .slice none 0 0] 45)
  have hD2 := hD.below (box_below (w.alloc (.cells #[.slice aw ws.length cw, .slice am ms.length cm, .slice a A.length ca, .slice b B.length cb, .slice c C.length cc] 45)) (.cells #[.slice none 0 0, .slice none 0 0, .slice none 0 0, .slice none 0 0, .slice none 0 0] 45)) hD.lt
  have hsz : ((w.alloc (.cells #[.slice aw ws.length cw, .slice am ms.length cm, .slice a A.length ca, .slice b B.length cb, .slice c C.length cc] 45)).alloc (.cells #[.slice none 0 0, .slice none 0 0, .slice none 0 0, .slice none 0 0, .slice none 0 0] 45)).heap.size = w.heap.size + 1 + 1 := by simp
  rw [show (w.alloc (.cells #[.slice aw ws.length cw, .slice am ms.length cm, .slice a A.length ca, .slice b B.length cb, .slice c C.length cc] 45)).heap.size = w.heap.size + 1 by simp] at hR
  clear hD hb
  have d0 := hD2.c0
  go_enter Tryd.func23, Tryd.ntmps23
  go_wp2_with fail
  obtain ⟨Y, hY⟩ : ∃ Y, Y = ((w.alloc (.cells #[.slice aw ws.length cw, .slice am ms.length cm, .slice a A.length ca, .slice b B.length cb, .slice c C.length cc] 45)).alloc (.cells #[.slice none 0 0, .slice none 0 0, .slice none 0 0, .slice none 0 0, .slice none 0 0] 45)) := ⟨_, rfl⟩
  rw [← hY] at hb2 hD2 hR hsz d0 ⊢
  clear hY
  obtain ⟨z, hz⟩ : ∃ z, z = w.heap.size := ⟨_, rfl⟩
  have HZ : Hid (z = w.heap.size) := hz
  rw [← hz] at hD2 hR hsz d0 ⊢
  clear hz d0
  refine (cloneW_any aw cw ws Y hn (h0.below hb2)).mono ?_
  rintro e w1 ⟨a0, c0, rfl, hO, hb1⟩
  have hD1 := hD2.below hb1 (by omega)
  have hR1 := hR.below hb1 (by omega)
  have d0 := hD1.c0
  have f0 := fun j => unfrozen_of_block hD1 j
  have HD1 : Hid (DBox w1 z (.slice aw ws.length cw) (.slice am ms.length cm) (.slice a A.length ca) (.slice b B.length cb) (.slice c C.length cc)) := hD1
  have HR1 : Hid (DBox w1 (z + 1) (.slice none 0 0) (.slice none 0 0) (.slice none 0 0) (.slice none 0 0) (.slice none 0 0)) := hR1
  have hB1 := hb2.trans (hb1.mono hb2.size)
  have hs1 := hb1.size
  clear hD2 hR hb1 hb2 hD1 hR1
  have ds := (HD1.out.s0 (.slice a0 ws.length c0)).c0
  go_wp2_with fail
  obtain ⟨V, hV⟩ : ∃ V, V = w1.setCell ⟨z, 0, none⟩ (.slice a0 ws.length c0) := ⟨_, rfl⟩
  have hDV := HD1.out.s0 (.slice a0 ws.length c0)
  have hRV := HR1.out.other (g := z) (o := 0) (by omega) (.slice a0 ws.length c0)
  have hOV := (hO.low (lo' := z + 1 + 1) (by omega)).away (b := z) (o := 0) (by omega) (.slice a0 ws.length c0)
  have hBV := hB1.setCell (p := ⟨z, 0, none⟩) (by have := HZ.out; show w.heap.size ≤ z; omega) (.slice a0 ws.length c0)
  have hsV : z + 1 + 1 ≤ V.heap.size := by rw [hV]; simp; omega
  rw [← hV] at hDV hRV hOV hBV ⊢
  clear hV HD1 HR1 hO hB1 hs1 d0 f0 ds
  go_loopw [12] (fun i wr => ∃ k : Nat, k ≤ ws.length ∧ i = .int .i64 k ∧ DBox wr z (.slice a0 ws.length c0) (.slice am ms.length cm) (.slice a A.length ca) (.slice b B.length cb) (.slice c C.length cc) ∧ DBox wr (z + 1) (.slice none 0 0) (.slice none 0 0) (.slice none 0 0) (.slice none 0 0) (.slice none 0 0) ∧ OwnW wr (z + 1 + 1) a0 c0 ws ∧ Below w.heap.size w wr ∧ z + 1 + 1 ≤ wr.heap.size) (fun i _ => ws.length - (intOf i).toNat)
  case atStart => exact ⟨0, Nat.zero_le _, rfl, hDV, hRV, hOV, hBV, hsV⟩
  case round =>
    clear hDV hRV hOV hBV hsV
    obtain ⟨k, hk, rfl, hD, hR, hO, hB', hs⟩ := hrel
    by_cases hlt : k < ws.length
    · obtain ⟨x, hx⟩ : ∃ x, ws[k]? = some x := ⟨_, List.getElem?_eq_getElem hlt⟩
      have HX : Hid (ws[k]? = some x) := hx
      have hx6 := hz6 k x hx
      rcases hO.row with ⟨-, h⟩ | ⟨g, cur, ha, hg, hc, hcs, hel⟩
      · rw [h] at hx; simp at hx
      · have e0 := hel k x hx
        have HG : Hid (wr.heap[g]? = some (.cells cur 9 (0, 0))) := hc
        have HE0 : Hid (cur[k]? = some (.string x)) := e0
        have HO : Hid (OwnW wr (z + 1 + 1) a0 c0 ws) := hO
        have HA : Hid (a0 = some ⟨g, 0, none⟩) := ha
        have HDd : Hid (DBox wr z (.slice a0 ws.length c0) (.slice am ms.length cm) (.slice a A.length ca) (.slice b B.length cb) (.slice c C.length cc)) := hD
        have HRr : Hid (DBox wr (z + 1) (.slice none 0 0) (.slice none 0 0) (.slice none 0 0) (.slice none 0 0) (.slice none 0 0)) := hR
        have q0 := cell_of_block hc k
        rw [e0] at q0
        have d0 := hD.c0
        have HC := fun wx => sclone_any x wx (by omega)
        clear hx hel hc hO hD hR e0 hcs
        subst ha
        go_wp2_with fail
        have k0 := cell_regrown (w := wr) d0
        clear d0 q0
        refine wp_region_quiet_tail (C := fun w' => ∃ p : Regrown, w' = grow (redrawn wr p.d) p.os) 5 (by kernel_rfl) (by kernel_rfl) ⟨⟨_, #[]⟩, by rw [grow_empty]; rfl⟩ ?_
        simp only [List.take_succ_cons, List.take_zero, List.drop_succ_cons, List.drop_zero]
        repeat (go_big_quiet_step ((go_at_call 40; exact Calls.regrown_of (HC _))))
        refine wpQuiet_nil ?_
        intro W5 hw'
        have hb5 : Below wr.heap.size wr W5 := by
          obtain ⟨⟨dq, osq⟩, rfl⟩ := hw'
          exact below_regrown _ _ _
        have hG5 := (hb5.block g (Array.getElem?_eq_some_iff.1 HG.out).1).trans HG.out
        have q0 := cell_of_block hG5 k
        rw [HE0.out] at q0
        have f0 := fun j => unfrozen_of_block hG5 j
        clear k0 hw' HC hG5
        go_wp2_with fail
        go_roundw
        case measure => simp only [intOf]; omega
        case rel => exact ⟨k + 1, by omega, by go_num, ((HDd.out.below hb5 (by omega)).other (by omega) _), ((HRr.out.below hb5 (by omega)).other (by omega) _), (HO.out.below hb5).same rfl HX.out, (hB'.trans (hb5.mono hB'.size)).setCell (p := ⟨g, k, none⟩) (by have := HZ.out; show w.heap.size ≤ g; omega) _, by simp; have := hb5.size; omega⟩
    · have hkn : k = ws.length := by omega
      subst hkn
      have d1 := hD.c1
      have HD0 : Hid (DBox wr z (.slice a0 ws.length c0) (.slice am ms.length cm) (.slice a A.length ca) (.slice b B.length cb) (.slice c C.length cc)) := hD
      have HR0 : Hid (DBox wr (z + 1) (.slice none 0 0) (.slice none 0 0) (.slice none 0 0) (.slice none 0 0) (.slice none 0 0)) := hR
      have hB0 := hB'
      have p0 := hO
      clear hD hR hB' hO
      go_wp2_with fail
      clear d1
      refine (cloneM_any am cm ms wr hm (h1.below hB0)).mono ?_
      rintro e x1 ⟨a1, c1, rfl, q1, hb1⟩
      have hD1 := HD0.out.below hb1 (by omega)
      have hR1 := HR0.out.below hb1 (by omega)
      have d0 := hD1.c1
      have f0 := fun j => unfrozen_of_block hD1 j
      have hT1 := hD1.s1 (.slice a1 ms.length c1)
      have hS1 := hR1.other (g := z) (o := 1) (by omega) (.slice a1 ms.length c1)
      have hB1 := (hB0.trans (hb1.mono hB0.size)).setCell (p := ⟨z, 1, none⟩) (by have := HZ.out; show w.heap.size ≤ z; omega) (.slice a1 ms.length c1)
      have hsz1 := hb1.size
      have p0 := (p0.below hb1).away (b := z) (o := 1) (by omega) (.slice a1 ms.length c1)
      have p1 := (q1.low (lo' := z + 1 + 1) (by omega)).away (b := z) (o := 1) (by omega) (.slice a1 ms.length c1)
      have ds := hT1.c2
      have HT1 : Hid (DBox (x1.setCell ⟨z, 1, none⟩ (.slice a1 ms.length c1)) z (.slice a0 ws.length c0) (.slice a1 ms.length c1) (.slice a A.length ca) (.slice b B.length cb) (.slice c C.length cc)) := hT1
      have HS1 : Hid (DBox (x1.setCell ⟨z, 1, none⟩ (.slice a1 ms.length c1)) (z + 1) (.slice none 0 0) (.slice none 0 0) (.slice none 0 0) (.slice none 0 0) (.slice none 0 0)) := hS1
      have hv1 : z + 1 + 1 ≤ (x1.setCell ⟨z, 1, none⟩ (.slice a1 ms.length c1)).heap.size ∧ wr.heap.size ≤ (x1.setCell ⟨z, 1, none⟩ (.slice a1 ms.length c1)).heap.size := by simp; omega
      clear hD1 hR1 hT1 hS1 HD0 HR0 hb1 hB0 q1 hsz1
      go_wp2_with fail
      clear d0 f0 ds
      obtain ⟨V1, hV1⟩ : ∃ V, V = x1.setCell ⟨z, 1, none⟩ (.slice a1 ms.length c1) := ⟨_, rfl⟩
      rw [← hV1] at HT1 HS1 hB1 hv1 p0 p1 ⊢
      have HD1 := HT1
      have HR1 := HS1
      clear hV1 HT1 HS1
      obtain ⟨hs1, hg1⟩ := hv1
      refine (cloneS_any a ca A V1 hA (h2.below hB1)).mono ?_
      rintro e x2 ⟨a2, c2, rfl, q2, hb2⟩
      have hD2 := HD1.out.below hb2 (by omega)
      have hR2 := HR1.out.below hb2 (by omega)
      have d0 := hD2.c2
      have f0 := fun j => unfrozen_of_block hD2 j
      have hT2 := hD2.s2 (.slice a2 A.length c2)
      have hS2 := hR2.other (g := z) (o := 2) (by omega) (.slice a2 A.length c2)
      have hB2 := (hB1.trans (hb2.mono hB1.size)).setCell (p := ⟨z, 2, none⟩) (by have := HZ.out; show w.heap.size ≤ z; omega) (.slice a2 A.length c2)
      have hsz2 := hb2.size
      have p0 := (p0.below hb2).away (b := z) (o := 2) (by omega) (.slice a2 A.length c2)
      have p1 := (p1.below hb2).away (b := z) (o := 2) (by omega) (.slice a2 A.length c2)
      have p2 := (q2.low (lo' := z + 1 + 1) (by omega)).away (b := z) (o := 2) (by omega) (.slice a2 A.length c2)
      have ds := hT2.c3
      have HT2 : Hid (DBox (x2.setCell ⟨z, 2, none⟩ (.slice a2 A.length c2)) z (.slice a0 ws.length c0) (.slice a1 ms.length c1) (.slice a2 A.length c2) (.slice b B.length cb) (.slice c C.length cc)) := hT2
      have HS2 : Hid (DBox (x2.setCell ⟨z, 2, none⟩ (.slice a2 A.length c2)) (z + 1) (.slice none 0 0) (.slice none 0 0) (.slice none 0 0) (.slice none 0 0) (.slice none 0 0)) := hS2
      have hv2 : z + 1 + 1 ≤ (x2.setCell ⟨z, 2, none⟩ (.slice a2 A.length c2)).heap.size ∧ V1.heap.size ≤ (x2.setCell ⟨z, 2, none⟩ (.slice a2 A.length c2)).heap.size := by simp; omega
      clear hD2 hR2 hT2 hS2 HD1 HR1 hb2 hB1 q2 hsz2
      go_wp2_with fail
      clear d0 f0 ds
      obtain ⟨V2, hV2⟩ : ∃ V, V = x2.setCell ⟨z, 2, none⟩ (.slice a2 A.length c2) := ⟨_, rfl⟩
      rw [← hV2] at HT2 HS2 hB2 hv2 p0 p1 p2 ⊢
      have HD2 := HT2
      have HR2 := HS2
      clear hV2 HT2 HS2
      obtain ⟨hs2, hg2⟩ := hv2
      have u2 := p2.und
      refine (cloneS_any b cb B V2 hB (h3.below hB2)).mono ?_
      rintro e x3 ⟨a3, c3, rfl, q3, hb3⟩
      have hD3 := HD2.out.below hb3 (by omega)
      have hR3 := HR2.out.below hb3 (by omega)
      have d0 := hD3.c3
      have f0 := fun j => unfrozen_of_block hD3 j
      have hT3 := hD3.s3 (.slice a3 B.length c3)
      have hS3 := hR3.other (g := z) (o := 3) (by omega) (.slice a3 B.length c3)
      have hB3 := (hB2.trans (hb3.mono hB2.size)).setCell (p := ⟨z, 3, none⟩) (by have := HZ.out; show w.heap.size ≤ z; omega) (.slice a3 B.length c3)
      have hsz3 := hb3.size
      have p0 := (p0.below hb3).away (b := z) (o := 3) (by omega) (.slice a3 B.length c3)
      have p1 := (p1.below hb3).away (b := z) (o := 3) (by omega) (.slice a3 B.length c3)
      have p2 := (p2.below hb3).away (b := z) (o := 3) (by omega) (.slice a3 B.length c3)
      have p3 := (q3.low (lo' := V2.heap.size) (by omega)).away (b := z) (o := 3) (by omega) (.slice a3 B.length c3)
      have ds := hT3.c4
      have HT3 : Hid (DBox (x3.setCell ⟨z, 3, none⟩ (.slice a3 B.length c3)) z (.slice a0 ws.length c0) (.slice a1 ms.length c1) (.slice a2 A.length c2) (.slice a3 B.length c3) (.slice c C.length cc)) := hT3
      have HS3 : Hid (DBox (x3.setCell ⟨z, 3, none⟩ (.slice a3 B.length c3)) (z + 1) (.slice none 0 0) (.slice none 0 0) (.slice none 0 0) (.slice none 0 0) (.slice none 0 0)) := hS3
      have hv3 : z + 1 + 1 ≤ (x3.setCell ⟨z, 3, none⟩ (.slice a3 B.length c3)).heap.size ∧ V2.heap.size ≤ (x3.setCell ⟨z, 3, none⟩ (.slice a3 B.length c3)).heap.size := by simp; omega
      clear hD3 hR3 hT3 hS3 HD2 HR2 hb3 hB2 q3 hsz3
      go_wp2_with fail
      clear d0 f0 ds
      obtain ⟨V3, hV3⟩ : ∃ V, V = x3.setCell ⟨z, 3, none⟩ (.slice a3 B.length c3) := ⟨_, rfl⟩
      rw [← hV3] at HT3 HS3 hB3 hv3 p0 p1 p2 p3 ⊢
      have HD3 := HT3
      have HR3 := HS3
      clear hV3 HT3 HS3
      obtain ⟨hs3, hg3⟩ := hv3
      have u3 := p3.und
      refine (cloneS_any c cc C V3 hC (h4.below hB3)).mono ?_
      rintro e x4 ⟨a4, c4, rfl, q4, hb4⟩
      have hD4 := HD3.out.below hb4 (by omega)
      have hR4 := HR3.out.below hb4 (by omega)
      have d0 := hD4.c4
      have f0 := fun j => unfrozen_of_block hD4 j
      have hT4 := hD4.s4 (.slice a4 C.length c4)
      have hS4 := hR4.other (g := z) (o := 4) (by omega) (.slice a4 C.length c4)
      have hB4 := (hB3.trans (hb4.mono hB3.size)).setCell (p := ⟨z, 4, none⟩) (by have := HZ.out; show w.heap.size ≤ z; omega) (.slice a4 C.length c4)
      have hsz4 := hb4.size
      have p0 := (p0.below hb4).away (b := z) (o := 4) (by omega) (.slice a4 C.length c4)
      have p1 := (p1.below hb4).away (b := z) (o := 4) (by omega) (.slice a4 C.length c4)
      have p2 := (p2.below hb4).away (b := z) (o := 4) (by omega) (.slice a4 C.length c4)
      have p3 := (p3.below hb4).away (b := z) (o := 4) (by omega) (.slice a4 C.length c4)
      have p4 := (q4.low (lo' := V3.heap.size) (by omega)).away (b := z) (o := 4) (by omega) (.slice a4 C.length c4)
      have ds0 := hT4.c0
      have ds1 := hT4.c1
      have ds2 := hT4.c2
      have ds3 := hT4.c3
      have ds4 := hT4.c4
      have r0 := hS4.c0
      have r1 := hS4.c1
      have r2 := hS4.c2
      have r3 := hS4.c3
      have r4 := hS4.c4
      have fr := fun j => unfrozen_of_block hS4 j
      have HT4 : Hid (DBox (x4.setCell ⟨z, 4, none⟩ (.slice a4 C.length c4)) z (.slice a0 ws.length c0) (.slice a1 ms.length c1) (.slice a2 A.length c2) (.slice a3 B.length c3) (.slice a4 C.length c4)) := hT4
      have HS4 : Hid (DBox (x4.setCell ⟨z, 4, none⟩ (.slice a4 C.length c4)) (z + 1) (.slice none 0 0) (.slice none 0 0) (.slice none 0 0) (.slice none 0 0) (.slice none 0 0)) := hS4
      have hv4 : z + 1 + 1 ≤ (x4.setCell ⟨z, 4, none⟩ (.slice a4 C.length c4)).heap.size ∧ V3.heap.size ≤ (x4.setCell ⟨z, 4, none⟩ (.slice a4 C.length c4)).heap.size := by simp; omega
      clear hD4 hR4 hT4 hS4 HD3 HR3 hb4 hB3 q4 hsz4
      go_wp2_with fail
      have e5 := (((((HS4.out.s0 (.slice a0 ws.length c0)).s1 (.slice a1 ms.length c1)).s2 (.slice a2 A.length c2)).s3 (.slice a3 B.length c3)).s4 (.slice a4 C.length c4))
      have hB5 := ((((hB4.setCell (p := ⟨z + 1, 0, none⟩) (by have := HZ.out; show w.heap.size ≤ z + 1; omega) (.slice a0 ws.length c0)).setCell (p := ⟨z + 1, 1, none⟩) (by have := HZ.out; show w.heap.size ≤ z + 1; omega) (.slice a1 ms.length c1)).setCell (p := ⟨z + 1, 2, none⟩) (by have := HZ.out; show w.heap.size ≤ z + 1; omega) (.slice a2 A.length c2)).setCell (p := ⟨z + 1, 3, none⟩) (by have := HZ.out; show w.heap.size ≤ z + 1; omega) (.slice a3 B.length c3)).setCell (p := ⟨z + 1, 4, none⟩) (by have := HZ.out; show w.heap.size ≤ z + 1; omega) (.slice a4 C.length c4)
      have p0 := p0.away (b := z + 1) (o := 0) (by omega) (.slice a0 ws.length c0)
      have p0 := p0.away (b := z + 1) (o := 1) (by omega) (.slice a1 ms.length c1)
      have p0 := p0.away (b := z + 1) (o := 2) (by omega) (.slice a2 A.length c2)
      have p0 := p0.away (b := z + 1) (o := 3) (by omega) (.slice a3 B.length c3)
      have p0 := p0.away (b := z + 1) (o := 4) (by omega) (.slice a4 C.length c4)
      have p1 := p1.away (b := z + 1) (o := 0) (by omega) (.slice a0 ws.length c0)
      have p1 := p1.away (b := z + 1) (o := 1) (by omega) (.slice a1 ms.length c1)
      have p1 := p1.away (b := z + 1) (o := 2) (by omega) (.slice a2 A.length c2)
      have p1 := p1.away (b := z + 1) (o := 3) (by omega) (.slice a3 B.length c3)
      have p1 := p1.away (b := z + 1) (o := 4) (by omega) (.slice a4 C.length c4)
      have p2 := p2.away (b := z + 1) (o := 0) (by omega) (.slice a0 ws.length c0)
      have p2 := p2.away (b := z + 1) (o := 1) (by omega) (.slice a1 ms.length c1)
      have p2 := p2.away (b := z + 1) (o := 2) (by omega) (.slice a2 A.length c2)
      have p2 := p2.away (b := z + 1) (o := 3) (by omega) (.slice a3 B.length c3)
      have p2 := p2.away (b := z + 1) (o := 4) (by omega) (.slice a4 C.length c4)
      have p3 := p3.away (b := z + 1) (o := 0) (by omega) (.slice a0 ws.length c0)
      have p3 := p3.away (b := z + 1) (o := 1) (by omega) (.slice a1 ms.length c1)
      have p3 := p3.away (b := z + 1) (o := 2) (by omega) (.slice a2 A.length c2)
      have p3 := p3.away (b := z + 1) (o := 3) (by omega) (.slice a3 B.length c3)
      have p3 := p3.away (b := z + 1) (o := 4) (by omega) (.slice a4 C.length c4)
      have p4 := p4.away (b := z + 1) (o := 0) (by omega) (.slice a0 ws.length c0)
      have p4 := p4.away (b := z + 1) (o := 1) (by omega) (.slice a1 ms.length c1)
      have p4 := p4.away (b := z + 1) (o := 2) (by omega) (.slice a2 A.length c2)
      have p4 := p4.away (b := z + 1) (o := 3) (by omega) (.slice a3 B.length c3)
      have p4 := p4.away (b := z + 1) (o := 4) (by omega) (.slice a4 C.length c4)
      clear d0 f0 ds0 ds1 ds2 ds3 ds4 r0 r1 r2 r3 r4 fr HT4 HS4 hB4
      obtain ⟨Wf, hWf⟩ : ∃ Wf, Wf = (((((x4.setCell ⟨z, 4, none⟩ (.slice a4 C.length c4)).setCell ⟨z + 1, 0, none⟩ (.slice a0 ws.length c0)).setCell ⟨z + 1, 1, none⟩ (.slice a1 ms.length c1)).setCell ⟨z + 1, 2, none⟩ (.slice a2 A.length c2)).setCell ⟨z + 1, 3, none⟩ (.slice a3 B.length c3)).setCell ⟨z + 1, 4, none⟩ (.slice a4 C.length c4) := ⟨_, rfl⟩
      rw [← hWf] at e5 hB5 p0 p1 p2 p3 p4 ⊢
      clear hWf
      have y0 := e5.c0
      have y1 := e5.c1
      have y2 := e5.c2
      have y3 := e5.c3
      have y4 := e5.c4
      have hlo : w.heap.size ≤ z + 1 + 1 := by have := HZ.out; omega
      exact bodyPost_ret (v := .agg #[.slice a0 ws.length c0, .slice a1 ms.length c1, .slice a2 A.length c2, .slice a3 B.length c3, .slice a4 C.length c4]) (by simp [results, Tryd.results23, go_sem, y0, y1, y2, y3, y4]) rfl ⟨_, _, _, _, _, _, _, _, _, _, rfl, ⟨p0.low hlo, p1.low hlo, V2.heap.size, V3.heap.size, by omega, by omega, p2.low hlo, u2, p3, u3, p4⟩, hB5⟩
end Go.Proofs.YtplmmamebfpcjaaDoor
end
section
/- All old blocks but one stand as they stood; blocks of cells are kept. -/
namespace Go.Proofs.YtplmmamebfpcjaaDoor
open Go.RowKit Go.Sort Go.Joins
set_option linter.unusedVariables false
def But (b B : Nat) (W W' : World) : Prop := W'.os = W.os ∧ W'.tape = W.tape ∧ W'.output = W.output ∧ W.heap.size ≤ W'.heap.size ∧ ∀ k, k < B → k ≠ b → W'.heap[k]? = W.heap[k]?
theorem But.refl (b B : Nat) (W : World) : But b B W W := ⟨rfl, rfl, rfl, Nat.le_refl _, fun _ _ _ => rfl⟩
theorem But.of_below {b B : Nat} {W W' : World} (h : Below B W W') : But b B W W' := ⟨h.os, h.tape, h.output, h.size, fun k hk _ => h.block k hk⟩
theorem But.trans {b B : Nat} {X Y Z : World} (h : But b B X Y) (k : But b B Y Z) : But b B X Z := ⟨k.1.trans h.1, k.2.1.trans h.2.1, k.2.2.1.trans h.2.2.1, Nat.le_trans h.2.2.2.1 k.2.2.2.1, fun i hi hb => (k.2.2.2.2 i hi hb).trans (h.2.2.2.2 i hi hb)⟩
theorem But.setCell {b B : Nat} {W W' : World} (h : But b B W W') (j : Nat) (v : Value) : But b B W (W'.setCell ⟨b, j, none⟩ v) := ⟨h.1, h.2.1, h.2.2.1, by simpa using h.2.2.2.1, fun k hk hb => (Below.heap_setCell _ _ _ k hb).trans (h.2.2.2.2 k hk hb)⟩
theorem But.below {b B B' : Nat} {W W' : World} (h : But b B W W') (hB : B' ≤ B) (hb : B' ≤ b) : Below B' W W' := ⟨h.1, h.2.1, h.2.2.1, h.2.2.2.1, fun k hk => h.2.2.2.2 k (by omega) (by omega)⟩
theorem But.size {b B : Nat} {W W' : World} (h : But b B W W') : W.heap.size ≤ W'.heap.size := h.2.2.2.1
theorem But.mono {b B B' : Nat} {W W' : World} (h : But b B W W') (hB : B' ≤ B) : But b B' W W' := ⟨h.1, h.2.1, h.2.2.1, h.2.2.2.1, fun k hk hb => h.2.2.2.2 k (by omega) hb⟩
theorem But.grown {b B : Nat} {W W' W'' : World} (h : But b B W W') (hg : W'.grownBy W'' (some b)) (hB : B ≤ W'.heap.size) : But b B W W'' :=
  ⟨hg.os.trans h.1, hg.tape.trans h.2.1, hg.output.trans h.2.2.1, Nat.le_trans h.2.2.2.1 hg.size, fun k hk hb => (hg.block k (by omega) (fun e => hb (Option.some.inj e))).trans (h.2.2.2.2 k hk hb)⟩
theorem But.above {b B : Nat} {W W' : World} (h : But b B W W') {p : Addr} (hp : B ≤ p.block) (v : Value) : But b B W (W'.setCell p v) := ⟨h.1, h.2.1, h.2.2.1, by simpa using h.2.2.2.1, fun k hk hb => (Below.heap_setCell _ _ _ k (by omega)).trans (h.2.2.2.2 k hk hb)⟩
/-- Blocks of cells stand as they stood. -/
def CK (w w' : World) : Prop := ∀ (k : Nat) cur t z, w.heap[k]? = some (.cells cur t z) → w'.heap[k]? = some (.cells cur t z)
theorem MapI.ne {α : Type} {K : TypeId} {kv : α → Value} {w : World} {b n k : Nat} {f : α → Option Int} {cur t z} (h : MapI w K kv b n f) (hk : w.heap[k]? = some (.cells cur t z)) : k ≠ b := by
  rintro rfl
  obtain ⟨D, ⟨es, clock, hb, -⟩, -⟩ := h
  rw [hk] at hb
  cases hb
theorem But.ck {α : Type} {K : TypeId} {kv : α → Value} {w w' : World} {b n : Nat} {f : α → Option Int} (h : But b w.heap.size w w') (hm : MapI w K kv b n f) : CK w w' :=
  fun k cur t z hk => (h.2.2.2.2 k (Array.getElem?_eq_some_iff.1 hk).1 (hm.ne hk)).trans hk
theorem CK.of_below {w w' : World} (h : Below w.heap.size w w') : CK w w' := fun k cur t z hk => (h.block k (Array.getElem?_eq_some_iff.1 hk).1).trans hk
theorem CK.trans {w w' w'' : World} (h : CK w w') (h' : CK w' w'') : CK w w'' := fun k cur t z hk => h' k cur t z (h k cur t z hk)
theorem WPR.ck {w w' : World} {lo c : Nat} {a : Option Addr} {l : List ByteArray} (h : WPR w lo a c l) (hk : CK w w') : WPR w' lo a c l := by
  rcases h with h | ⟨g, cur, h1, h2, h3, h4⟩
  · exact .inl h
  · exact .inr ⟨g, cur, h1, h2, hk _ _ _ _ h3, h4⟩
theorem MPR.ck {w w' : World} {lo c : Nat} {a : Option Addr} {l : List Mg} (h : MPR w lo a c l) (hk : CK w w') : MPR w' lo a c l := by
  rcases h with h | ⟨g, cur, h1, h2, h3, h4⟩
  · exact .inl h
  · exact .inr ⟨g, cur, h1, h2, hk _ _ _ _ h3, h4⟩
theorem SPRc.ck {w w' : World} {lo c : Nat} {a : Option Addr} {l : List Sp} (h : SPRc w lo a c l) (hk : CK w w') : SPRc w' lo a c l := by
  rcases h with h | ⟨g, cur, h1, h2, h3, h4⟩
  · exact .inl h
  · exact .inr ⟨g, cur, h1, h2, hk _ _ _ _ h3, h4⟩
theorem SPR.ck {w w' : World} {lo : Nat} {a : Option Addr} {l : List Sp} (h : SPR w lo a l) (hk : CK w w') : SPR w' lo a l := by
  rcases h with h | ⟨g, cur, h1, h2, h3, h4⟩
  · exact .inl h
  · exact .inr ⟨g, cur, h1, h2, hk _ _ _ _ h3, h4⟩
theorem OwnD.ck {w w' : World} {lo : Nat} {a0 : Option Addr} {c0 : Nat} {a1 : Option Addr} {c1 : Nat} {a2 : Option Addr} {c2 : Nat} {a3 : Option Addr} {c3 : Nat} {a4 : Option Addr} {c4 : Nat} {ws : List ByteArray} {ms : List Mg} {A B C : List Sp} (h : OwnD w lo a0 c0 a1 c1 a2 c2 a3 c3 a4 c4 ws ms A B C) (hk : CK w w') : OwnD w' lo a0 c0 a1 c1 a2 c2 a3 c3 a4 c4 ws ms A B C := by
  obtain ⟨h1, h2, s3, s4, e1, e2, p1, p2, p3, p4, p5⟩ := h
  exact ⟨⟨h1.le, h1.cap, h1.row.ck hk⟩, ⟨h2.le, h2.cap, h2.row.ck hk⟩, s3, s4, e1, e2, ⟨p1.le, p1.cap, p1.row.ck hk⟩, p2, ⟨p3.le, p3.cap, p3.row.ck hk⟩, p4, ⟨p5.le, p5.cap, p5.row.ck hk⟩⟩
theorem OwnT.ck {w w' : World} {lo g : Nat} {A B C : List Sp} (h : OwnT w lo g A B C) (hk : CK w w') : OwnT w' lo g A B C := by
  obtain ⟨ad, cp, h1, h2, h3⟩ := h
  exact ⟨ad, cp, h1, hk _ _ _ _ h2, fun j hj => ⟨(h3 j hj).1, (h3 j hj).2.1, (h3 j hj).2.2.ck hk⟩⟩
theorem cell_ck {w w' : World} {p : Addr} {v : Value} (h : w.cell? p = some v) (hk : CK w w') : w'.cell? p = some v := by
  rw [← h]
  refine World.cell?_of_block ?_
  unfold World.cell? at h
  cases hb : w.heap[p.block]? with
  | none => rw [hb] at h; cases h
  | some o =>
    cases o with
    | cells cur t z => exact hk _ _ _ _ hb
    | _ => rw [hb] at h; cases h
theorem WSP.ck {w w' : World} {a : Option Addr} {l : List ByteArray} (h : WSP w a l) (hk : CK w w') : WSP w' a l := by
  rcases h with h | ⟨b, off, rfl, hc⟩
  · exact .inl h
  · exact .inr ⟨b, off, rfl, fun i x hx => cell_ck (hc i x hx) hk⟩
theorem MSP.ck {w w' : World} {a : Option Addr} {l : List Mg} (h : MSP w a l) (hk : CK w w') : MSP w' a l := by
  rcases h with h | ⟨b, off, rfl, hc⟩
  · exact .inl h
  · exact .inr ⟨b, off, rfl, fun i x hx => ⟨cell_ck (hc i x hx).1 hk, cell_ck (hc i x hx).2.1 hk, cell_ck (hc i x hx).2.2 hk⟩⟩
end Go.Proofs.YtplmmamebfpcjaaDoor
end
