import Derived.Test.YtplmmamebfpcjaaGreatDoorJ4
import Derived.Lib.QuietBelow
import Derived.Test.YtplmmamebfpcjaaGreatDoorJ2
import Derived.Maps.OwnSet
import Derived.Maps.OwnOps
import Derived.WideKeyPair
import Derived.Test.YtplmmamebfpcjaaGreatDoorJ1
import Derived.Deep.RegionHeld3
import Derived.Deep.DrawnRows
section
/- strings.Clone, model.copied: their contracts. -/
namespace Go.Proofs.YtplmmamebfpcjaaGreatDoor
open Go.RowKit Go.Sort Go.Joins
theorem infoB : (Tryz.prog.info? 5).map (fun i => (i.zero, i.size, i.bytes)) = some (some (.int .u8 0), 1, 1) := by kernel_rfl
theorem sizeB : (Tryz.prog.info? 5).map (·.size) = some 1 := by kernel_rfl
set_option maxHeartbeats 4000000 in
set_option maxRecDepth 100000 in
theorem slclone_any (s : ByteArray) (w : World) (hlim : s.size ≤ 140737488355328) :
    Calls Tryz.prog 94 #[.string s] w fun e w' => e = .returned (.string s) ∧ Below w.heap.size w w' := by
  by_cases h0 : s.size = 0
  · have hs : s = ⟨#[]⟩ := by
      apply ByteArray.ext
      exact Array.eq_empty_of_size_eq_zero h0
    subst hs
    go_enter Tryz.func94, Tryz.ntmps94
    go_wp2_with fail
    go_ret
    exact ⟨rfl, Below.refl _ _⟩
  · obtain ⟨i0, hi, hz0, hz1, hz2⟩ := info_parts infoB
    have hco : Tryz.prog.cellsOf 5 = 1 := by kernel_rfl
    obtain ⟨M, hM⟩ : ∃ M, M = madeCells (Value.int .u8 0).cells (((s.size : Nat) : Int).toNat * i0.size) := ⟨_, rfl⟩
    have hMs : M.size = s.size := by rw [hM, size_madeCells, hz1]; simp
    have hmk : ∀ W : World, (Instr.makeSlice 32 (.int .i64 (s.size : Int)) (.int .i64 (s.size : Int))).run Tryz.prog W = .ok (.slice (some ⟨W.heap.size, 0, none⟩) s.size s.size) (W.alloc (.cells M 5)) := fun W => by
      have h := run_make (P := Tryz.prog) W 32 5 i0 (.int .u8 0) Tryz.underlying32 hi hz0 .i64 .i64 (s.size : Int) (s.size : Int) (by omega) (by omega) (by rw [hz2]; omega) (by omega)
      rw [← hM] at h
      simpa using h
    clear hM
    have hcp := Lib.run_copy_row_string (P := Tryz.prog) (w.alloc (.cells M 5)) 32 9 3 5 w.heap.size 0 s.size s.size s M 5 Tryz.underlying32 sizeB (heap_alloc_new w _) (Nat.le_refl _) (by omega)
    obtain ⟨Y, hY⟩ : ∃ Y, Y = (M.toList.take 0 ++ Lib.byteCells s.data.toList ++ M.toList.drop (0 + s.size)).toArray := ⟨_, rfl⟩
    rw [← hY] at hcp
    have hYl : Y.toList = Lib.byteCells s.data.toList := by
      rw [hY, List.toList_toArray, List.take_zero, List.nil_append, List.drop_of_length_le (by rw [Array.length_toList]; omega), List.append_nil]
    have hYs : Y.size = s.size := by rw [← Array.length_toList, hYl, Lib.byteCells_length, ← Lib.size_eq]
    have hgY : ((w.alloc (.cells M 5)).setRow w.heap.size Y).heap[w.heap.size]? = some (.cells Y 5 (0, 0)) := setRow_heap _ _ M _ 5 (0, 0) (heap_alloc_new w _)
    have hne : s.data.toList ≠ [] := fun e => h0 (by rw [Lib.size_eq, e]; rfl)
    have hUS := Lib.run_unsafeString_row (P := Tryz.prog) ((w.alloc (.cells M 5)).setRow w.heap.size Y) 177 3 9 5 Tryz.underlying177 hco w.heap.size Y.size (by unfold World.shape?; rw [hgY]) s.data.toList hne (by rw [← Lib.size_eq]; omega) (by rw [← Lib.size_eq]; omega)
      (fun j x hx => Lib.cells_of_row hgY Y.size j _ (by rw [List.take_of_length_le (by rw [Array.length_toList]; exact Nat.le_refl _), hYl]; simp [Lib.byteCells, hx]))
    rw [← Lib.size_eq] at hUS
    clear hY
    go_enter Tryz.func94, Tryz.ntmps94
    go_wp2
    go_ret
    have hb1 := box_below w (.cells M 5)
    have hb2 : Below w.heap.size (w.alloc (.cells M 5)) ((w.alloc (.cells M 5)).setRow w.heap.size Y) := ⟨rfl, rfl, rfl, by simp, fun k hk => setRow_other _ _ _ _ (by omega)⟩
    exact ⟨rfl, Lib.below_freeze (hb1.trans hb2) (p := ⟨w.heap.size, 0, none⟩) (Nat.le_refl _) _⟩
set_option maxHeartbeats 1000000 in
theorem sclone_any (s : ByteArray) (w : World) (hlim : s.size ≤ 140737488355328) :
    Calls Tryz.prog 74 #[.string s] w fun e w' => e = .returned (.string s) ∧ Below w.heap.size w w' := by
  go_enter Tryz.func74, Tryz.ntmps74
  go_wp2_with fail
  refine (slclone_any s _ hlim).mono ?_
  rintro e w1 ⟨rfl, hb⟩
  go_wp2_with fail
  go_ret
  exact ⟨rfl, hb⟩
/-- One cell of a block of data written. -/
theorem DBox.set {w : World} {z : Nat} {v0 v1 v2 v3 v4 : Value} (h : DBox w z v0 v1 v2 v3 v4) (i : Nat) (u : Value) : (w.setCell ⟨z, i, none⟩ u).heap[z]? = some (.cells (#[v0, v1, v2, v3, v4].setIfInBounds i u) 26 (0, 0)) := block_setCell h u
theorem DBox.s0 {w : World} {z : Nat} {v0 v1 v2 v3 v4 : Value} (h : DBox w z v0 v1 v2 v3 v4) (u : Value) : DBox (w.setCell ⟨z, 0, none⟩ u) z u v1 v2 v3 v4 := h.set 0 u
theorem DBox.s1 {w : World} {z : Nat} {v0 v1 v2 v3 v4 : Value} (h : DBox w z v0 v1 v2 v3 v4) (u : Value) : DBox (w.setCell ⟨z, 1, none⟩ u) z v0 u v2 v3 v4 := h.set 1 u
theorem DBox.s2 {w : World} {z : Nat} {v0 v1 v2 v3 v4 : Value} (h : DBox w z v0 v1 v2 v3 v4) (u : Value) : DBox (w.setCell ⟨z, 2, none⟩ u) z v0 v1 u v3 v4 := h.set 2 u
theorem DBox.s3 {w : World} {z : Nat} {v0 v1 v2 v3 v4 : Value} (h : DBox w z v0 v1 v2 v3 v4) (u : Value) : DBox (w.setCell ⟨z, 3, none⟩ u) z v0 v1 v2 u v4 := h.set 3 u
theorem DBox.s4 {w : World} {z : Nat} {v0 v1 v2 v3 v4 : Value} (h : DBox w z v0 v1 v2 v3 v4) (u : Value) : DBox (w.setCell ⟨z, 4, none⟩ u) z v0 v1 v2 v3 u := h.set 4 u
theorem DBox.other {w : World} {z : Nat} {v0 v1 v2 v3 v4 : Value} (h : DBox w z v0 v1 v2 v3 v4) {g o : Nat} (hg : g ≠ z) (u : Value) : DBox (w.setCell ⟨g, o, none⟩ u) z v0 v1 v2 v3 v4 :=
  (Below.heap_setCell w ⟨g, o, none⟩ u z (fun e => hg (by have e' : z = g := e; omega))).trans h
/-- The word that stands there is written there. -/
theorem OwnW.same {w : World} {lo c g k : Nat} {a : Option Addr} {l : List ByteArray} {x : ByteArray} (h : OwnW w lo a c l) (ha : a = some ⟨g, 0, none⟩) (hx : l[k]? = some x) : OwnW (w.setCell ⟨g, k, none⟩ (.string x)) lo a c l := by
  refine ⟨h.le, h.cap, ?_⟩
  rcases h.row with h | ⟨g', cur, h1, h2, h3, h4, h5⟩
  · exact .inl h
  · rw [ha] at h1
    cases h1
    refine .inr ⟨g, _, ha, h2, block_setCell h3 _, by simpa using h4, fun i y hy => ?_⟩
    by_cases e : k = i
    · subst e
      have e2 := h5 k y hy
      rw [hx] at hy
      cases hy
      rw [Array.getElem?_setIfInBounds_self_of_lt (Array.getElem?_eq_some_iff.1 e2).1]
    · rw [Array.getElem?_setIfInBounds_ne e]
      exact h5 i y hy
/-- Its block lies under s, if it has one. -/
def Und (a : Option Addr) (c s : Nat) : Prop := c = 0 ∨ ∃ g, a = some ⟨g, 0, none⟩ ∧ g < s
theorem OwnS.und {w : World} {lo c : Nat} {a : Option Addr} {l : List Sp} (h : OwnS w lo a c l) : Und a c w.heap.size := by
  rcases h.row with ⟨h, -⟩ | ⟨g, cur, h1, h2, h3, -⟩
  · exact .inl h
  · exact .inr ⟨g, h1, (Array.getElem?_eq_some_iff.1 h3).1⟩
/-- Data of one's own: five lists, each in a block of its own. -/
structure OwnD (w : World) (lo : Nat) (a0 : Option Addr) (c0 : Nat) (a1 : Option Addr) (c1 : Nat) (a2 : Option Addr) (c2 : Nat) (a3 : Option Addr) (c3 : Nat) (a4 : Option Addr) (c4 : Nat) (ws : List ByteArray) (ms : List Mg) (A B C : List Sp) : Prop where
  words : OwnW w lo a0 c0 ws
  merges : OwnM w lo a1 c1 ms
  spans : ∃ s3 s4, lo ≤ s3 ∧ s3 ≤ s4 ∧ OwnS w lo a2 c2 A ∧ Und a2 c2 s3 ∧ OwnS w s3 a3 c3 B ∧ Und a3 c3 s4 ∧ OwnS w s4 a4 c4 C
theorem OwnD.below {w w' : World} {lo : Nat} {a0 : Option Addr} {c0 : Nat} {a1 : Option Addr} {c1 : Nat} {a2 : Option Addr} {c2 : Nat} {a3 : Option Addr} {c3 : Nat} {a4 : Option Addr} {c4 : Nat} {ws : List ByteArray} {ms : List Mg} {A B C : List Sp} (h : OwnD w lo a0 c0 a1 c1 a2 c2 a3 c3 a4 c4 ws ms A B C) (hb : Below w.heap.size w w') : OwnD w' lo a0 c0 a1 c1 a2 c2 a3 c3 a4 c4 ws ms A B C := by
  obtain ⟨h1, h2, s3, s4, e1, e2, p1, p2, p3, p4, p5⟩ := h
  exact ⟨h1.below hb, h2.below hb, s3, s4, e1, e2, p1.below hb, p2, p3.below hb, p4, p5.below hb⟩
theorem OwnD.low {w : World} {lo lo' : Nat} {a0 : Option Addr} {c0 : Nat} {a1 : Option Addr} {c1 : Nat} {a2 : Option Addr} {c2 : Nat} {a3 : Option Addr} {c3 : Nat} {a4 : Option Addr} {c4 : Nat} {ws : List ByteArray} {ms : List Mg} {A B C : List Sp} (h : OwnD w lo a0 c0 a1 c1 a2 c2 a3 c3 a4 c4 ws ms A B C) (hl : lo' ≤ lo) : OwnD w lo' a0 c0 a1 c1 a2 c2 a3 c3 a4 c4 ws ms A B C := by
  obtain ⟨h1, h2, s3, s4, e1, e2, p1, p2, p3, p4, p5⟩ := h
  exact ⟨h1.low hl, h2.low hl, s3, s4, by omega, e2, p1.low hl, p2, p3, p4, p5⟩
theorem OwnD.away {w : World} {lo : Nat} {a0 : Option Addr} {c0 : Nat} {a1 : Option Addr} {c1 : Nat} {a2 : Option Addr} {c2 : Nat} {a3 : Option Addr} {c3 : Nat} {a4 : Option Addr} {c4 : Nat} {ws : List ByteArray} {ms : List Mg} {A B C : List Sp} (h : OwnD w lo a0 c0 a1 c1 a2 c2 a3 c3 a4 c4 ws ms A B C) {b o : Nat} (hb : b < lo) (v : Value) : OwnD (w.setCell ⟨b, o, none⟩ v) lo a0 c0 a1 c1 a2 c2 a3 c3 a4 c4 ws ms A B C := by
  obtain ⟨h1, h2, s3, s4, e1, e2, p1, p2, p3, p4, p5⟩ := h
  exact ⟨h1.away hb v, h2.away hb v, s3, s4, e1, e2, p1.away hb v, p2, p3.away (by omega) v, p4, p5.away (by omega) v⟩
set_option maxRecDepth 100000 in
set_option maxHeartbeats 4000000 in
theorem copied_any (aw am a b c : Option Addr) (cw cm ca cb cc : Nat) (ws : List ByteArray) (ms : List Mg) (A B C : List Sp) (w : World) (hn : ws.length ≤ 8796093022208) (hm : ms.length ≤ 5864062014805) (hA : A.length ≤ 17592186044416) (hB : B.length ≤ 17592186044416) (hC : C.length ≤ 17592186044416) (hz6 : ∀ (i : Nat) (x : ByteArray), ws[i]? = some x → x.size ≤ 256)
    (h0 : WSP w aw ws) (h1 : MSP w am ms) (h2 : SPS w a A) (h3 : SPS w b B) (h4 : SPS w c C) :
    Calls Tryz.prog 51 #[.agg #[.slice aw ws.length cw, .slice am ms.length cm, .slice a A.length ca, .slice b B.length cb, .slice c C.length cc]] w fun e w' => ∃ a0 c0 a1 c1 a2 c2 a3 c3 a4 c4, e = .returned (.agg #[.slice a0 ws.length c0, .slice a1 ms.length c1, .slice a2 A.length c2, .slice a3 B.length c3, .slice a4 C.length c4]) ∧ OwnD w' w.heap.size a0 c0 a1 c1 a2 c2 a3 c3 a4 c4 ws ms A B C ∧ Below w.heap.size w w' := by
  have hD := DBox.new w (.slice aw ws.length cw) (.slice am ms.length cm) (.slice a A.length ca) (.slice b B.length cb) (.slice c C.length cc)
  have hb := box_below w (.cells #[.slice aw ws.length cw, .slice am ms.length cm, .slice a A.length ca, .slice b B.length cb, .slice c C.length cc] 26)
  have hR := DBox.new (w.alloc (.cells #[.slice aw ws.length cw, .slice am ms.length cm, .slice a A.length ca, .slice b B.length cb, .slice c C.length cc] 26)) (.slice none 0 0) (.slice none 0 0) (.slice none 0 0) (.slice none 0 0) (.slice none 0 0)
  have hb2 := hb.alloc hb.size (.cells #[.slice none 0 0, .slice none 0 0, .slice none 0 0, .slice none 0 0, .slice none 0 0] 26)
  have hD2 := hD.below (box_below (w.alloc (.cells #[.slice aw ws.length cw, .slice am ms.length cm, .slice a A.length ca, .slice b B.length cb, .slice c C.length cc] 26)) (.cells #[.slice none 0 0, .slice none 0 0, .slice none 0 0, .slice none 0 0, .slice none 0 0] 26)) hD.lt
  have hsz : ((w.alloc (.cells #[.slice aw ws.length cw, .slice am ms.length cm, .slice a A.length ca, .slice b B.length cb, .slice c C.length cc] 26)).alloc (.cells #[.slice none 0 0, .slice none 0 0, .slice none 0 0, .slice none 0 0, .slice none 0 0] 26)).heap.size = w.heap.size + 1 + 1 := by simp
  rw [show (w.alloc (.cells #[.slice aw ws.length cw, .slice am ms.length cm, .slice a A.length ca, .slice b B.length cb, .slice c C.length cc] 26)).heap.size = w.heap.size + 1 by simp] at hR
  clear hD hb
  have d0 := hD2.c0
  go_enter Tryz.func51, Tryz.ntmps51
  go_wp2_with fail
  obtain ⟨Y, hY⟩ : ∃ Y, Y = ((w.alloc (.cells #[.slice aw ws.length cw, .slice am ms.length cm, .slice a A.length ca, .slice b B.length cb, .slice c C.length cc] 26)).alloc (.cells #[.slice none 0 0, .slice none 0 0, .slice none 0 0, .slice none 0 0, .slice none 0 0] 26)) := ⟨_, rfl⟩
  rw [← hY] at hb2 hD2 hR hsz d0 ⊢
  clear hY
  obtain ⟨z, hz⟩ : ∃ z, z = w.heap.size := ⟨_, rfl⟩
  have HZ : Hid (z = w.heap.size) := hz
  rw [← hz] at hD2 hR hsz d0 ⊢
  clear hz d0
  refine (cloneW_any aw cw ws Y hn (h0.below hb2)).mono ?_
  rintro e w1 ⟨a0, c0, rfl, hO, hb1⟩
  have hD1 := hD2.below hb1 (by omega)
  have hR1 := hR.below hb1 (by omega)
  have d0 := hD1.c0
  have f0 := fun j => unfrozen_of_block hD1 j
  have HD1 : Hid (DBox w1 z (.slice aw ws.length cw) (.slice am ms.length cm) (.slice a A.length ca) (.slice b B.length cb) (.slice c C.length cc)) := hD1
  have HR1 : Hid (DBox w1 (z + 1) (.slice none 0 0) (.slice none 0 0) (.slice none 0 0) (.slice none 0 0) (.slice none 0 0)) := hR1
  have hB1 := hb2.trans (hb1.mono hb2.size)
  have hs1 := hb1.size
  clear hD2 hR hb1 hb2 hD1 hR1
  have ds := (HD1.out.s0 (.slice a0 ws.length c0)).c0
  go_wp2_with fail
  obtain ⟨V, hV⟩ : ∃ V, V = w1.setCell ⟨z, 0, none⟩ (.slice a0 ws.length c0) := ⟨_, rfl⟩
  have hDV := HD1.out.s0 (.slice a0 ws.length c0)
  have hRV := HR1.out.other (g := z) (o := 0) (by omega) (.slice a0 ws.length c0)
  have hOV := (hO.low (lo' := z + 1 + 1) (by omega)).away (b := z) (o := 0) (by omega) (.slice a0 ws.length c0)
  have hBV := hB1.setCell (p := ⟨z, 0, none⟩) (by have := HZ.out; show w.heap.size ≤ z; omega) (.slice a0 ws.length c0)
  have hsV : z + 1 + 1 ≤ V.heap.size := by rw [hV]; simp; omega
  rw [← hV] at hDV hRV hOV hBV ⊢
  clear hV HD1 HR1 hO hB1 hs1 d0 f0 ds
  go_loopw [12] (fun i wr => ∃ k : Nat, k ≤ ws.length ∧ i = .int .i64 k ∧ DBox wr z (.slice a0 ws.length c0) (.slice am ms.length cm) (.slice a A.length ca) (.slice b B.length cb) (.slice c C.length cc) ∧ DBox wr (z + 1) (.slice none 0 0) (.slice none 0 0) (.slice none 0 0) (.slice none 0 0) (.slice none 0 0) ∧ OwnW wr (z + 1 + 1) a0 c0 ws ∧ Below w.heap.size w wr ∧ z + 1 + 1 ≤ wr.heap.size) (fun i _ => ws.length - (intOf i).toNat)
  case atStart => exact ⟨0, Nat.zero_le _, rfl, hDV, hRV, hOV, hBV, hsV⟩
  case round =>
    clear hDV hRV hOV hBV hsV
    obtain ⟨k, hk, rfl, hD, hR, hO, hB', hs⟩ := hrel
    by_cases hlt : k < ws.length
    · obtain ⟨x, hx⟩ : ∃ x, ws[k]? = some x := ⟨_, List.getElem?_eq_getElem hlt⟩
      have HX : Hid (ws[k]? = some x) := hx
      have hx6 := hz6 k x hx
      rcases hO.row with ⟨-, h⟩ | ⟨g, cur, ha, hg, hc, hcs, hel⟩
      · rw [h] at hx; simp at hx
      · have e0 := hel k x hx
        have HG : Hid (wr.heap[g]? = some (.cells cur 9 (0, 0))) := hc
        have HE0 : Hid (cur[k]? = some (.string x)) := e0
        have HO : Hid (OwnW wr (z + 1 + 1) a0 c0 ws) := hO
        have HA : Hid (a0 = some ⟨g, 0, none⟩) := ha
        have HDd : Hid (DBox wr z (.slice a0 ws.length c0) (.slice am ms.length cm) (.slice a A.length ca) (.slice b B.length cb) (.slice c C.length cc)) := hD
        have HRr : Hid (DBox wr (z + 1) (.slice none 0 0) (.slice none 0 0) (.slice none 0 0) (.slice none 0 0) (.slice none 0 0)) := hR
        have q0 := cell_of_block hc k
        rw [e0] at q0
        have d0 := hD.c0
        have HC := fun wx => sclone_any x wx (by omega)
        clear hx hel hc hO hD hR e0 hcs
        subst ha
        go_wp2_with fail
        have k0 := cell_regrown (w := wr) d0
        clear d0 q0
        refine wp_region_quiet_tail (C := fun w' => ∃ p : Regrown, w' = grow (redrawn wr p.d) p.os) 5 (by kernel_rfl) (by kernel_rfl) ⟨⟨_, #[]⟩, by rw [grow_empty]; rfl⟩ ?_
        simp only [List.take_succ_cons, List.take_zero, List.drop_succ_cons, List.drop_zero]
        repeat (go_big_quiet_step ((go_at_call 74; exact Calls.regrown_of (HC _))))
        refine wpQuiet_nil ?_
        intro W5 hw'
        have hb5 : Below wr.heap.size wr W5 := by
          obtain ⟨⟨dq, osq⟩, rfl⟩ := hw'
          exact below_regrown _ _ _
        have hG5 := (hb5.block g (Array.getElem?_eq_some_iff.1 HG.out).1).trans HG.out
        have q0 := cell_of_block hG5 k
        rw [HE0.out] at q0
        have f0 := fun j => unfrozen_of_block hG5 j
        clear k0 hw' HC hG5
        go_wp2_with fail
        go_roundw
        case measure => simp only [intOf]; omega
        case rel => exact ⟨k + 1, by omega, by go_num, ((HDd.out.below hb5 (by omega)).other (by omega) _), ((HRr.out.below hb5 (by omega)).other (by omega) _), (HO.out.below hb5).same rfl HX.out, (hB'.trans (hb5.mono hB'.size)).setCell (p := ⟨g, k, none⟩) (by have := HZ.out; show w.heap.size ≤ g; omega) _, by simp; have := hb5.size; omega⟩
    · have hkn : k = ws.length := by omega
      subst hkn
      have d1 := hD.c1
      have HD0 : Hid (DBox wr z (.slice a0 ws.length c0) (.slice am ms.length cm) (.slice a A.length ca) (.slice b B.length cb) (.slice c C.length cc)) := hD
      have HR0 : Hid (DBox wr (z + 1) (.slice none 0 0) (.slice none 0 0) (.slice none 0 0) (.slice none 0 0) (.slice none 0 0)) := hR
      have hB0 := hB'
      have p0 := hO
      clear hD hR hB' hO
      go_wp2_with fail
      clear d1
      refine (cloneM_any am cm ms wr hm (h1.below hB0)).mono ?_
      rintro e x1 ⟨a1, c1, rfl, q1, hb1⟩
      have hD1 := HD0.out.below hb1 (by omega)
      have hR1 := HR0.out.below hb1 (by omega)
      have d0 := hD1.c1
      have f0 := fun j => unfrozen_of_block hD1 j
      have hT1 := hD1.s1 (.slice a1 ms.length c1)
      have hS1 := hR1.other (g := z) (o := 1) (by omega) (.slice a1 ms.length c1)
      have hB1 := (hB0.trans (hb1.mono hB0.size)).setCell (p := ⟨z, 1, none⟩) (by have := HZ.out; show w.heap.size ≤ z; omega) (.slice a1 ms.length c1)
      have hsz1 := hb1.size
      have p0 := (p0.below hb1).away (b := z) (o := 1) (by omega) (.slice a1 ms.length c1)
      have p1 := (q1.low (lo' := z + 1 + 1) (by omega)).away (b := z) (o := 1) (by omega) (.slice a1 ms.length c1)
      have ds := hT1.c2
      have HT1 : Hid (DBox (x1.setCell ⟨z, 1, none⟩ (.slice a1 ms.length c1)) z (.slice a0 ws.length c0) (.slice a1 ms.length c1) (.slice a A.length ca) (.slice b B.length cb) (.slice c C.length cc)) := hT1
      have HS1 : Hid (DBox (x1.setCell ⟨z, 1, none⟩ (.slice a1 ms.length c1)) (z + 1) (.slice none 0 0) (.slice none 0 0) (.slice none 0 0) (.slice none 0 0) (.slice none 0 0)) := hS1
      have hv1 : z + 1 + 1 ≤ (x1.setCell ⟨z, 1, none⟩ (.slice a1 ms.length c1)).heap.size ∧ wr.heap.size ≤ (x1.setCell ⟨z, 1, none⟩ (.slice a1 ms.length c1)).heap.size := by simp; omega
      clear hD1 hR1 hT1 hS1 HD0 HR0 hb1 hB0 q1 hsz1
      go_wp2_with fail
      clear d0 f0 ds
      obtain ⟨V1, hV1⟩ : ∃ V, V = x1.setCell ⟨z, 1, none⟩ (.slice a1 ms.length c1) := ⟨_, rfl⟩
      rw [← hV1] at HT1 HS1 hB1 hv1 p0 p1 ⊢
      have HD1 := HT1
      have HR1 := HS1
      clear hV1 HT1 HS1
      obtain ⟨hs1, hg1⟩ := hv1
      refine (cloneS_any a ca A V1 hA (h2.below hB1)).mono ?_
      rintro e x2 ⟨a2, c2, rfl, q2, hb2⟩
      have hD2 := HD1.out.below hb2 (by omega)
      have hR2 := HR1.out.below hb2 (by omega)
      have d0 := hD2.c2
      have f0 := fun j => unfrozen_of_block hD2 j
      have hT2 := hD2.s2 (.slice a2 A.length c2)
      have hS2 := hR2.other (g := z) (o := 2) (by omega) (.slice a2 A.length c2)
      have hB2 := (hB1.trans (hb2.mono hB1.size)).setCell (p := ⟨z, 2, none⟩) (by have := HZ.out; show w.heap.size ≤ z; omega) (.slice a2 A.length c2)
      have hsz2 := hb2.size
      have p0 := (p0.below hb2).away (b := z) (o := 2) (by omega) (.slice a2 A.length c2)
      have p1 := (p1.below hb2).away (b := z) (o := 2) (by omega) (.slice a2 A.length c2)
      have p2 := (q2.low (lo' := z + 1 + 1) (by omega)).away (b := z) (o := 2) (by omega) (.slice a2 A.length c2)
      have ds := hT2.c3
      have HT2 : Hid (DBox (x2.setCell ⟨z, 2, none⟩ (.slice a2 A.length c2)) z (.slice a0 ws.length c0) (.slice a1 ms.length c1) (.slice a2 A.length c2) (.slice b B.length cb) (.slice c C.length cc)) := hT2
      have HS2 : Hid (DBox (x2.setCell ⟨z, 2, none⟩ (.slice a2 A.length c2)) (z + 1) (.slice none 0 0) (.slice none 0 0) (.slice none 0 0) (.slice none 0 0) (.slice none 0 0)) := hS2
      have hv2 : z + 1 + 1 ≤ (x2.setCell ⟨z, 2, none⟩ (.slice a2 A.length c2)).heap.size ∧ V1.heap.size ≤ (x2.setCell ⟨z, 2, none⟩ (.slice a2 A.length c2)).heap.size := by simp; omega
      clear hD2 hR2 hT2 hS2 HD1 HR1 hb2 hB1 q2 hsz2
      go_wp2_with fail
      clear d0 f0 ds
      obtain ⟨V2, hV2⟩ : ∃ V, V = x2.setCell ⟨z, 2, none⟩ (.slice a2 A.length c2) := ⟨_, rfl⟩
      rw [← hV2] at HT2 HS2 hB2 hv2 p0 p1 p2 ⊢
      have HD2 := HT2
      have HR2 := HS2
      clear hV2 HT2 HS2
      obtain ⟨hs2, hg2⟩ := hv2
      have u2 := p2.und
      refine (cloneS_any b cb B V2 hB (h3.below hB2)).mono ?_
      rintro e x3 ⟨a3, c3, rfl, q3, hb3⟩
      have hD3 := HD2.out.below hb3 (by omega)
      have hR3 := HR2.out.below hb3 (by omega)
      have d0 := hD3.c3
      have f0 := fun j => unfrozen_of_block hD3 j
      have hT3 := hD3.s3 (.slice a3 B.length c3)
      have hS3 := hR3.other (g := z) (o := 3) (by omega) (.slice a3 B.length c3)
      have hB3 := (hB2.trans (hb3.mono hB2.size)).setCell (p := ⟨z, 3, none⟩) (by have := HZ.out; show w.heap.size ≤ z; omega) (.slice a3 B.length c3)
      have hsz3 := hb3.size
      have p0 := (p0.below hb3).away (b := z) (o := 3) (by omega) (.slice a3 B.length c3)
      have p1 := (p1.below hb3).away (b := z) (o := 3) (by omega) (.slice a3 B.length c3)
      have p2 := (p2.below hb3).away (b := z) (o := 3) (by omega) (.slice a3 B.length c3)
      have p3 := (q3.low (lo' := V2.heap.size) (by omega)).away (b := z) (o := 3) (by omega) (.slice a3 B.length c3)
      have ds := hT3.c4
      have HT3 : Hid (DBox (x3.setCell ⟨z, 3, none⟩ (.slice a3 B.length c3)) z (.slice a0 ws.length c0) (.slice a1 ms.length c1) (.slice a2 A.length c2) (.slice a3 B.length c3) (.slice c C.length cc)) := hT3
      have HS3 : Hid (DBox (x3.setCell ⟨z, 3, none⟩ (.slice a3 B.length c3)) (z + 1) (.slice none 0 0) (.slice none 0 0) (.slice none 0 0) (.slice none 0 0) (.slice none 0 0)) := hS3
      have hv3 : z + 1 + 1 ≤ (x3.setCell ⟨z, 3, none⟩ (.slice a3 B.length c3)).heap.size ∧ V2.heap.size ≤ (x3.setCell ⟨z, 3, none⟩ (.slice a3 B.length c3)).heap.size := by simp; omega
      clear hD3 hR3 hT3 hS3 HD2 HR2 hb3 hB2 q3 hsz3
      go_wp2_with fail
      clear d0 f0 ds
      obtain ⟨V3, hV3⟩ : ∃ V, V = x3.setCell ⟨z, 3, none⟩ (.slice a3 B.length c3) := ⟨_, rfl⟩
      rw [← hV3] at HT3 HS3 hB3 hv3 p0 p1 p2 p3 ⊢
      have HD3 := HT3
      have HR3 := HS3
      clear hV3 HT3 HS3
      obtain ⟨hs3, hg3⟩ := hv3
      have u3 := p3.und
      refine (cloneS_any c cc C V3 hC (h4.below hB3)).mono ?_
      rintro e x4 ⟨a4, c4, rfl, q4, hb4⟩
      have hD4 := HD3.out.below hb4 (by omega)
      have hR4 := HR3.out.below hb4 (by omega)
      have d0 := hD4.c4
      have f0 := fun j => unfrozen_of_block hD4 j
      have hT4 := hD4.s4 (.slice a4 C.length c4)
      have hS4 := hR4.other (g := z) (o := 4) (by omega) (.slice a4 C.length c4)
      have hB4 := (hB3.trans (hb4.mono hB3.size)).setCell (p := ⟨z, 4, none⟩) (by have := HZ.out; show w.heap.size ≤ z; omega) (.slice a4 C.length c4)
      have hsz4 := hb4.size
      have p0 := (p0.below hb4).away (b := z) (o := 4) (by omega) (.slice a4 C.length c4)
      have p1 := (p1.below hb4).away (b := z) (o := 4) (by omega) (.slice a4 C.length c4)
      have p2 := (p2.below hb4).away (b := z) (o := 4) (by omega) (.slice a4 C.length c4)
      have p3 := (p3.below hb4).away (b := z) (o := 4) (by omega) (.slice a4 C.length c4)
      have p4 := (q4.low (lo' := V3.heap.size) (by omega)).away (b := z) (o := 4) (by omega) (.slice a4 C.length c4)
      have ds0 := hT4.c0
      have ds1 := hT4.c1
      have ds2 := hT4.c2
      have ds3 := hT4.c3
      have ds4 := hT4.c4
      have r0 := hS4.c0
      have r1 := hS4.c1
      have r2 := hS4.c2
      have r3 := hS4.c3
      have r4 := hS4.c4
      have fr := fun j => unfrozen_of_block hS4 j
      have HT4 : Hid (DBox (x4.setCell ⟨z, 4, none⟩ (.slice a4 C.length c4)) z (.slice a0 ws.length c0) (.slice a1 ms.length c1) (.slice a2 A.length c2) (.slice a3 B.length c3) (.slice a4 C.length c4)) := hT4
      have HS4 : Hid (DBox (x4.setCell ⟨z, 4, none⟩ (.slice a4 C.length c4)) (z + 1) (.slice none 0 0) (.slice none 0 0) (.slice none 0 0) (.slice none 0 0) (.slice none 0 0)) := hS4
      have hv4 : z + 1 + 1 ≤ (x4.setCell ⟨z, 4, none⟩ (.slice a4 C.length c4)).heap.size ∧ V3.heap.size ≤ (x4.setCell ⟨z, 4, none⟩ (.slice a4 C.length c4)).heap.size := by simp; omega
      clear hD4 hR4 hT4 hS4 HD3 HR3 hb4 hB3 q4 hsz4
      go_wp2_with fail
      have e5 := (((((HS4.out.s0 (.slice a0 ws.length c0)).s1 (.slice a1 ms.length c1)).s2 (.slice a2 A.length c2)).s3 (.slice a3 B.length c3)).s4 (.slice a4 C.length c4))
      have hB5 := ((((hB4.setCell (p := ⟨z + 1, 0, none⟩) (by have := HZ.out; show w.heap.size ≤ z + 1; omega) (.slice a0 ws.length c0)).setCell (p := ⟨z + 1, 1, none⟩) (by have := HZ.out; show w.heap.size ≤ z + 1; omega) (.slice a1 ms.length c1)).setCell (p := ⟨z + 1, 2, none⟩) (by have := HZ.out; show w.heap.size ≤ z + 1; omega) (.slice a2 A.length c2)).setCell (p := ⟨z + 1, 3, none⟩) (by have := HZ.out; show w.heap.size ≤ z + 1; omega) (.slice a3 B.length c3)).setCell (p := ⟨z + 1, 4, none⟩) (by have := HZ.out; show w.heap.size ≤ z + 1; omega) (.slice a4 C.length c4)
      have p0 := p0.away (b := z + 1) (o := 0) (by omega) (.slice a0 ws.length c0)
      have p0 := p0.away (b := z + 1) (o := 1) (by omega) (.slice a1 ms.length c1)
      have p0 := p0.away (b := z + 1) (o := 2) (by omega) (.slice a2 A.length c2)
      have p0 := p0.away (b := z + 1) (o := 3) (by omega) (.slice a3 B.length c3)
      have p0 := p0.away (b := z + 1) (o := 4) (by omega) (.slice a4 C.length c4)
      have p1 := p1.away (b := z + 1) (o := 0) (by omega) (.slice a0 ws.length c0)
      have p1 := p1.away (b := z + 1) (o := 1) (by omega) (.slice a1 ms.length c1)
      have p1 := p1.away (b := z + 1) (o := 2) (by omega) (.slice a2 A.length c2)
      have p1 := p1.away (b := z + 1) (o := 3) (by omega) (.slice a3 B.length c3)
      have p1 := p1.away (b := z + 1) (o := 4) (by omega) (.slice a4 C.length c4)
      have p2 := p2.away (b := z + 1) (o := 0) (by omega) (.slice a0 ws.length c0)
      have p2 := p2.away (b := z + 1) (o := 1) (by omega) (.slice a1 ms.length c1)
      have p2 := p2.away (b := z + 1) (o := 2) (by omega) (.slice a2 A.length c2)
      have p2 := p2.away (b := z + 1) (o := 3) (by omega) (.slice a3 B.length c3)
      have p2 := p2.away (b := z + 1) (o := 4) (by omega) (.slice a4 C.length c4)
      have p3 := p3.away (b := z + 1) (o := 0) (by omega) (.slice a0 ws.length c0)
      have p3 := p3.away (b := z + 1) (o := 1) (by omega) (.slice a1 ms.length c1)
      have p3 := p3.away (b := z + 1) (o := 2) (by omega) (.slice a2 A.length c2)
      have p3 := p3.away (b := z + 1) (o := 3) (by omega) (.slice a3 B.length c3)
      have p3 := p3.away (b := z + 1) (o := 4) (by omega) (.slice a4 C.length c4)
      have p4 := p4.away (b := z + 1) (o := 0) (by omega) (.slice a0 ws.length c0)
      have p4 := p4.away (b := z + 1) (o := 1) (by omega) (.slice a1 ms.length c1)
      have p4 := p4.away (b := z + 1) (o := 2) (by omega) (.slice a2 A.length c2)
      have p4 := p4.away (b := z + 1) (o := 3) (by omega) (.slice a3 B.length c3)
      have p4 := p4.away (b := z + 1) (o := 4) (by omega) (.slice a4 C.length c4)
      clear d0 f0 ds0 ds1 ds2 ds3 ds4 r0 r1 r2 r3 r4 fr HT4 HS4 hB4
      obtain ⟨Wf, hWf⟩ : ∃ Wf, Wf = (((((x4.setCell ⟨z, 4, none⟩ (.slice a4 C.length c4)).setCell ⟨z + 1, 0, none⟩ (.slice a0 ws.length c0)).setCell ⟨z + 1, 1, none⟩ (.slice a1 ms.length c1)).setCell ⟨z + 1, 2, none⟩ (.slice a2 A.length c2)).setCell ⟨z + 1, 3, none⟩ (.slice a3 B.length c3)).setCell ⟨z + 1, 4, none⟩ (.slice a4 C.length c4) := ⟨_, rfl⟩
      rw [← hWf] at e5 hB5 p0 p1 p2 p3 p4 ⊢
      clear hWf
      have y0 := e5.c0
      have y1 := e5.c1
      have y2 := e5.c2
      have y3 := e5.c3
      have y4 := e5.c4
      have hlo : w.heap.size ≤ z + 1 + 1 := by have := HZ.out; omega
      exact bodyPost_ret (v := .agg #[.slice a0 ws.length c0, .slice a1 ms.length c1, .slice a2 A.length c2, .slice a3 B.length c3, .slice a4 C.length c4]) (by simp [results, Tryz.results51, go_sem, y0, y1, y2, y3, y4]) rfl ⟨_, _, _, _, _, _, _, _, _, _, rfl, ⟨p0.low hlo, p1.low hlo, V2.heap.size, V3.heap.size, by omega, by omega, p2.low hlo, u2, p3, u3, p4⟩, hB5⟩
end Go.Proofs.YtplmmamebfpcjaaGreatDoor
end
section
/- Maps to numbers, with keys of one kind: what they hold, as a function. -/
namespace Go.Proofs.YtplmmamebfpcjaaGreatDoor
open Go.RowKit Go.Sort Go.Joins Go.Maps
section
variable {α : Type} {K t : TypeId} {kv : α → Value} {w : World} {b n : Nat} {f : α → Option Int}
/-- Block b is a map of n entries whose keys are of type K; f tells what it holds at the key that kv says. -/
def MapI (w : World) (K : TypeId) (kv : α → Value) (b n : Nat) (f : α → Option Int) : Prop :=
  ∃ D : DataW Unit, w.ownsMap Tryz.prog K (plainElem Tryz.prog 3) b n D ∧ Maps.size D = n ∧ ∀ x l, keyOf Tryz.prog K (kv x) = some l → Maps.has D l = (f x).isSome ∧ ∀ a, f x = some a → ∀ z, D.atKey l z = .lit (.int .i64 a)
theorem MapI.made (w : World) (K : TypeId) (kv : α → Value) : MapI (w.alloc (.map #[] 0)) K kv w.heap.size 0 (fun _ => none) :=
  ⟨.map [], World.ownsMap_made _ _ _ _, rfl, fun _ _ _ => ⟨rfl, fun _ h => by cases h⟩⟩
theorem MapI.kept {w' : World} (h : MapI w K kv b n f) (hk : w'.heap[b]? = w.heap[b]?) : MapI w' K kv b n f := by
  obtain ⟨D, ⟨es, clock, hb, F, hs, hD⟩, h2⟩ := h
  exact ⟨D, ⟨es, clock, hk.trans hb, F, hs, hD⟩, h2⟩
theorem MapI.lt (h : MapI w K kv b n f) : b < w.heap.size := by
  obtain ⟨D, h1, _⟩ := h
  exact h1.lt
theorem MapI.below {w' : World} {B : Nat} (h : MapI w K kv b n f) (hb : Below B w w') (hB : b < B) : MapI w' K kv b n f := h.kept (hb.block b hB)
theorem wf_nat (k : Nat) (h : k ≤ 9223372036854775807) : (Lit.int .i64 (k : Int)).wf = true := WalkArith.wf_i64 (by omega)
theorem zero3 (w : World) : (zeroValue 3).run Tryz.prog w = .ok (.int .i64 0) w := by kernel_rfl
theorem und3 : Tryz.prog.underlying 3 = some (.int .i64) := by kernel_rfl
theorem MapI.look (h : MapI w K kv b n f) (law : Keyed Tryz.prog K) (ht : Tryz.prog.underlying t = some (.map K 3)) {x : α} {l : Lit} (hk : keyOf Tryz.prog K (kv x) = some l) :
    (Instr.lookup t (.map (some b)) (kv x) true).run Tryz.prog w = .ok (.tuple #[.int .i64 ((f x).getD 0), .bool (f x).isSome]) w := by
  obtain ⟨D, h1, -, h2⟩ := h
  obtain ⟨v, ps, hrun, hv⟩ := h1.look_ok law ht (zero3 w) (zd := .lit (.int .i64 0)) (zp := []) (plainElem_int und3 (by decide)) hk
  obtain ⟨e1, e2⟩ := h2 x l hk
  obtain ⟨c, rfl, hc, -⟩ := plainElem_int_inv und3 hv
  rw [hrun, e1]
  have hc := congrArg Prod.fst hc
  simp only at hc
  cases hf : f x with
  | some a =>
    rw [e2 a hf] at hc
    simp at hc
    rw [hc]; rfl
  | none =>
    rw [hf] at e1
    rw [Maps.atKey_of_not_has e1] at hc
    simp at hc
    rw [← hc]; rfl
theorem MapI.get (h : MapI w K kv b n f) (law : Keyed Tryz.prog K) (ht : Tryz.prog.underlying t = some (.map K 3)) {x : α} {l : Lit} (hk : keyOf Tryz.prog K (kv x) = some l) :
    (Instr.lookup t (.map (some b)) (kv x) false).run Tryz.prog w = .ok (.int .i64 ((f x).getD 0)) w := by
  obtain ⟨D, h1, -, h2⟩ := h
  obtain ⟨c, hrun, hc, -⟩ := h1.lookup_int law ht und3 (zero3 w) hk
  obtain ⟨e1, e2⟩ := h2 x l hk
  rw [hrun]
  cases hf : f x with
  | some a =>
    rw [e2 a hf] at hc
    simp at hc
    rw [hc]; rfl
  | none =>
    rw [hf] at e1
    rw [Maps.atKey_of_not_has e1] at hc
    simp at hc
    rw [← hc]; rfl
theorem MapI.store [DecidableEq α] (h : MapI w K kv b n f) (law : Keyed Tryz.prog K) (hinj : ∀ x y, kv x = kv y → x = y) (ht : Tryz.prog.underlying t = some (.map K 3)) (hn : n < maxLen) {x : α} {l : Lit} (hk : keyOf Tryz.prog K (kv x) = some l) (hx : f x = none) {a : Int} (ha : (Lit.int .i64 a).wf = true) :
    ∃ w', (Instr.mapUpdate t (.map (some b)) (kv x) (.int .i64 a)).run Tryz.prog w = .ok () w' ∧ MapI w' K kv b (n + 1) (fun y => if y = x then some a else f y) ∧ w.grownBy w' (some b) := by
  obtain ⟨D, h1, h3, h2⟩ := h
  obtain ⟨w', hrun, r1, r2⟩ := h1.store law ht hn hk (plainElem_int (H := Unit) und3 ha)
  obtain ⟨e1, -⟩ := h2 x l hk
  rw [hx] at e1
  refine ⟨w', hrun, ⟨_, r1, ?_, ?_⟩, r2.grown⟩
  · rw [Maps.size_put (h1.tidy law), h3, e1]
    rfl
  · intro y l' hy
    by_cases hxy : y = x
    · subst hxy
      have : l' = l := Option.some.inj (hy.symm.trans hk)
      subst this
      have e0 : (fun z => if z = y then some a else f z) y = some a := if_pos rfl
      rw [e0]
      refine ⟨Maps.has_put_same h1.isMap (law.key hk) _, fun c hc z => ?_⟩
      obtain rfl := Option.some.inj hc
      exact Maps.atKey_put_same h1.isMap (law.key hk) _ _
    · have hl : l' ≠ l := fun e => hxy (hinj _ _ (law.inj (e ▸ hy) hk))
      have e0 : (fun z => if z = x then some a else f z) y = f y := if_neg hxy
      rw [e0, Maps.has_put_other hl]
      obtain ⟨c1, c2⟩ := h2 y l' hy
      exact ⟨c1, fun c hc z => by rw [Maps.atKey_put_other hl]; exact c2 c hc z⟩
theorem MapI.len (h : MapI w K kv b n f) (ht : Tryz.prog.underlying t = some (.map K 3)) (ty : TypeId) : (Builtin.len_ #[t] ty #[.map (some b)]).run Tryz.prog w = .ok (.int .i64 n) w := by
  obtain ⟨D, h1, h2, -⟩ := h
  rw [h1.len ht ty, h2]
end
section
variable {α : Type} {K : TypeId} {kv : α → Value} (w : World) {b n : Nat} {f : α → Option Int} {ops : Array Oper} {rest : List Oper} {o : Oper} {a : Act} {Q : Exit → Act → World → Prop}
/-- At the operation 'v, ok := m[k]'. -/
theorem wpList_look (hg : o.guard = none) (m x : Operand) (t : TypeId) (hop : o.op = Op.lookup t m x true) (law : Keyed Tryz.prog K) (ht : Tryz.prog.underlying t = some (.map K 3))
    (hm : a.eval m = .map (some b)) (h : MapI w K kv b n f) (y : α) (l : Lit) (hx : a.eval x = kv y) (hk : keyOf Tryz.prog K (kv y) = some l)
    (hK : wpList Tryz.prog ops Q rest (a.put o.dst (.tuple #[.int .i64 ((f y).getD 0), .bool (f y).isSome])) w) :
    wpList Tryz.prog ops Q (o :: rest) a w := by
  refine wpList_plain hg fun K' hK' => ?_
  unfold Oper.wp
  simp [execOp, hop, hm, hx, h.look law ht hk, Result.andThen]
  exact hK' _ _ (by simpa using hK)
theorem wpList_get (hg : o.guard = none) (m x : Operand) (t : TypeId) (hop : o.op = Op.lookup t m x false) (law : Keyed Tryz.prog K) (ht : Tryz.prog.underlying t = some (.map K 3))
    (hm : a.eval m = .map (some b)) (h : MapI w K kv b n f) (y : α) (l : Lit) (hx : a.eval x = kv y) (hk : keyOf Tryz.prog K (kv y) = some l)
    (hK : wpList Tryz.prog ops Q rest (a.put o.dst (.int .i64 ((f y).getD 0))) w) :
    wpList Tryz.prog ops Q (o :: rest) a w := by
  refine wpList_plain hg fun K' hK' => ?_
  unfold Oper.wp
  simp [execOp, hop, hm, hx, h.get law ht hk, Result.andThen]
  exact hK' _ _ (by simpa using hK)
theorem wpList_store [DecidableEq α] (hg : o.guard = none) (m x v : Operand) (t : TypeId) (hop : o.op = Op.mapUpdate t m x v) (law : Keyed Tryz.prog K) (hinj : ∀ x y, kv x = kv y → x = y) (ht : Tryz.prog.underlying t = some (.map K 3))
    (hm : a.eval m = .map (some b)) (h : MapI w K kv b n f) (hn : n < maxLen) (y : α) (l : Lit) (c : Int) (hx : a.eval x = kv y) (hv : a.eval v = .int .i64 c) (hk : keyOf Tryz.prog K (kv y) = some l) (hy : f y = none) (hc : (Lit.int .i64 c).wf = true)
    (hK : ∀ w', MapI w' K kv b (n + 1) (fun z => if z = y then some c else f z) → w.grownBy w' (some b) → wpList Tryz.prog ops Q rest (a.put o.dst undef) w') :
    wpList Tryz.prog ops Q (o :: rest) a w := by
  refine wpList_plain hg fun K' hK' => ?_
  obtain ⟨w', hrun, r1, r2⟩ := h.store law hinj ht hn hk hy hc
  unfold Oper.wp
  simp [execOp, hop, hm, hx, hv, hrun, Result.andThen]
  exact hK' _ _ (hK w' r1 r2)
end
end Go.Proofs.YtplmmamebfpcjaaGreatDoor
end
section
/- All old blocks but one stand as they stood; blocks of cells are kept. -/
namespace Go.Proofs.YtplmmamebfpcjaaGreatDoor
open Go.RowKit Go.Sort Go.Joins
set_option linter.unusedVariables false
def But (b B : Nat) (W W' : World) : Prop := W'.os = W.os ∧ W'.tape = W.tape ∧ W'.output = W.output ∧ W.heap.size ≤ W'.heap.size ∧ ∀ k, k < B → k ≠ b → W'.heap[k]? = W.heap[k]?
theorem But.refl (b B : Nat) (W : World) : But b B W W := ⟨rfl, rfl, rfl, Nat.le_refl _, fun _ _ _ => rfl⟩
theorem But.of_below {b B : Nat} {W W' : World} (h : Below B W W') : But b B W W' := ⟨h.os, h.tape, h.output, h.size, fun k hk _ => h.block k hk⟩
theorem But.trans {b B : Nat} {X Y Z : World} (h : But b B X Y) (k : But b B Y Z) : But b B X Z := ⟨k.1.trans h.1, k.2.1.trans h.2.1, k.2.2.1.trans h.2.2.1, Nat.le_trans h.2.2.2.1 k.2.2.2.1, fun i hi hb => (k.2.2.2.2 i hi hb).trans (h.2.2.2.2 i hi hb)⟩
theorem But.setCell {b B : Nat} {W W' : World} (h : But b B W W') (j : Nat) (v : Value) : But b B W (W'.setCell ⟨b, j, none⟩ v) := ⟨h.1, h.2.1, h.2.2.1, by simpa using h.2.2.2.1, fun k hk hb => (Below.heap_setCell _ _ _ k hb).trans (h.2.2.2.2 k hk hb)⟩
theorem But.below {b B B' : Nat} {W W' : World} (h : But b B W W') (hB : B' ≤ B) (hb : B' ≤ b) : Below B' W W' := ⟨h.1, h.2.1, h.2.2.1, h.2.2.2.1, fun k hk => h.2.2.2.2 k (by omega) (by omega)⟩
theorem But.size {b B : Nat} {W W' : World} (h : But b B W W') : W.heap.size ≤ W'.heap.size := h.2.2.2.1
theorem But.mono {b B B' : Nat} {W W' : World} (h : But b B W W') (hB : B' ≤ B) : But b B' W W' := ⟨h.1, h.2.1, h.2.2.1, h.2.2.2.1, fun k hk hb => h.2.2.2.2 k (by omega) hb⟩
theorem But.grown {b B : Nat} {W W' W'' : World} (h : But b B W W') (hg : W'.grownBy W'' (some b)) (hB : B ≤ W'.heap.size) : But b B W W'' :=
  ⟨hg.os.trans h.1, hg.tape.trans h.2.1, hg.output.trans h.2.2.1, Nat.le_trans h.2.2.2.1 hg.size, fun k hk hb => (hg.block k (by omega) (fun e => hb (Option.some.inj e))).trans (h.2.2.2.2 k hk hb)⟩
theorem But.above {b B : Nat} {W W' : World} (h : But b B W W') {p : Addr} (hp : B ≤ p.block) (v : Value) : But b B W (W'.setCell p v) := ⟨h.1, h.2.1, h.2.2.1, by simpa using h.2.2.2.1, fun k hk hb => (Below.heap_setCell _ _ _ k (by omega)).trans (h.2.2.2.2 k hk hb)⟩
/-- Blocks of cells stand as they stood. -/
def CK (w w' : World) : Prop := ∀ (k : Nat) cur t z, w.heap[k]? = some (.cells cur t z) → w'.heap[k]? = some (.cells cur t z)
theorem MapI.ne {α : Type} {K : TypeId} {kv : α → Value} {w : World} {b n k : Nat} {f : α → Option Int} {cur t z} (h : MapI w K kv b n f) (hk : w.heap[k]? = some (.cells cur t z)) : k ≠ b := by
  rintro rfl
  obtain ⟨D, ⟨es, clock, hb, -⟩, -⟩ := h
  rw [hk] at hb
  cases hb
theorem But.ck {α : Type} {K : TypeId} {kv : α → Value} {w w' : World} {b n : Nat} {f : α → Option Int} (h : But b w.heap.size w w') (hm : MapI w K kv b n f) : CK w w' :=
  fun k cur t z hk => (h.2.2.2.2 k (Array.getElem?_eq_some_iff.1 hk).1 (hm.ne hk)).trans hk
theorem CK.of_below {w w' : World} (h : Below w.heap.size w w') : CK w w' := fun k cur t z hk => (h.block k (Array.getElem?_eq_some_iff.1 hk).1).trans hk
theorem CK.trans {w w' w'' : World} (h : CK w w') (h' : CK w' w'') : CK w w'' := fun k cur t z hk => h' k cur t z (h k cur t z hk)
theorem WPR.ck {w w' : World} {lo c : Nat} {a : Option Addr} {l : List ByteArray} (h : WPR w lo a c l) (hk : CK w w') : WPR w' lo a c l := by
  rcases h with h | ⟨g, cur, h1, h2, h3, h4⟩
  · exact .inl h
  · exact .inr ⟨g, cur, h1, h2, hk _ _ _ _ h3, h4⟩
theorem MPR.ck {w w' : World} {lo c : Nat} {a : Option Addr} {l : List Mg} (h : MPR w lo a c l) (hk : CK w w') : MPR w' lo a c l := by
  rcases h with h | ⟨g, cur, h1, h2, h3, h4⟩
  · exact .inl h
  · exact .inr ⟨g, cur, h1, h2, hk _ _ _ _ h3, h4⟩
theorem SPRc.ck {w w' : World} {lo c : Nat} {a : Option Addr} {l : List Sp} (h : SPRc w lo a c l) (hk : CK w w') : SPRc w' lo a c l := by
  rcases h with h | ⟨g, cur, h1, h2, h3, h4⟩
  · exact .inl h
  · exact .inr ⟨g, cur, h1, h2, hk _ _ _ _ h3, h4⟩
theorem SPR.ck {w w' : World} {lo : Nat} {a : Option Addr} {l : List Sp} (h : SPR w lo a l) (hk : CK w w') : SPR w' lo a l := by
  rcases h with h | ⟨g, cur, h1, h2, h3, h4⟩
  · exact .inl h
  · exact .inr ⟨g, cur, h1, h2, hk _ _ _ _ h3, h4⟩
theorem OwnD.ck {w w' : World} {lo : Nat} {a0 : Option Addr} {c0 : Nat} {a1 : Option Addr} {c1 : Nat} {a2 : Option Addr} {c2 : Nat} {a3 : Option Addr} {c3 : Nat} {a4 : Option Addr} {c4 : Nat} {ws : List ByteArray} {ms : List Mg} {A B C : List Sp} (h : OwnD w lo a0 c0 a1 c1 a2 c2 a3 c3 a4 c4 ws ms A B C) (hk : CK w w') : OwnD w' lo a0 c0 a1 c1 a2 c2 a3 c3 a4 c4 ws ms A B C := by
  obtain ⟨h1, h2, s3, s4, e1, e2, p1, p2, p3, p4, p5⟩ := h
  exact ⟨⟨h1.le, h1.cap, h1.row.ck hk⟩, ⟨h2.le, h2.cap, h2.row.ck hk⟩, s3, s4, e1, e2, ⟨p1.le, p1.cap, p1.row.ck hk⟩, p2, ⟨p3.le, p3.cap, p3.row.ck hk⟩, p4, ⟨p5.le, p5.cap, p5.row.ck hk⟩⟩
theorem OwnT.ck {w w' : World} {lo g : Nat} {A B C : List Sp} (h : OwnT w lo g A B C) (hk : CK w w') : OwnT w' lo g A B C := by
  obtain ⟨ad, cp, h1, h2, h3⟩ := h
  exact ⟨ad, cp, h1, hk _ _ _ _ h2, fun j hj => ⟨(h3 j hj).1, (h3 j hj).2.1, (h3 j hj).2.2.ck hk⟩⟩
theorem cell_ck {w w' : World} {p : Addr} {v : Value} (h : w.cell? p = some v) (hk : CK w w') : w'.cell? p = some v := by
  rw [← h]
  refine World.cell?_of_block ?_
  unfold World.cell? at h
  cases hb : w.heap[p.block]? with
  | none => rw [hb] at h; cases h
  | some o =>
    cases o with
    | cells cur t z => exact hk _ _ _ _ hb
    | _ => rw [hb] at h; cases h
theorem WSP.ck {w w' : World} {a : Option Addr} {l : List ByteArray} (h : WSP w a l) (hk : CK w w') : WSP w' a l := by
  rcases h with h | ⟨b, off, rfl, hc⟩
  · exact .inl h
  · exact .inr ⟨b, off, rfl, fun i x hx => cell_ck (hc i x hx) hk⟩
theorem MSP.ck {w w' : World} {a : Option Addr} {l : List Mg} (h : MSP w a l) (hk : CK w w') : MSP w' a l := by
  rcases h with h | ⟨b, off, rfl, hc⟩
  · exact .inl h
  · exact .inr ⟨b, off, rfl, fun i x hx => ⟨cell_ck (hc i x hx).1 hk, cell_ck (hc i x hx).2.1 hk, cell_ck (hc i x hx).2.2 hk⟩⟩
end Go.Proofs.YtplmmamebfpcjaaGreatDoor
end
section
/- The reader of a file in memory; its smallest calls. -/
namespace Go.Proofs.YtplmmamebfpcjaaGreatDoor
open Go.RowKit Go.Sort Go.Joins
set_option linter.unusedVariables false
set_option maxRecDepth 100000
/-- What a reader holds. -/
structure RS where
  a : Option Addr
  n : Nat
  c : Nat
  p : Nat
  no : Option Addr
  W : Value
  M : Value
  A : Value
  B : Value
  C : Value
  P : Nat → Value
  bl : Nat
def RS.cells (s : RS) : Array Value := #[.slice s.a s.n s.c, .int .i64 (s.p : Nat), .pointer s.no, s.W, s.M, s.A, s.B, s.C, s.P 0, s.P 1, s.P 2, s.P 3, s.P 4, s.P 5, .int .i64 (s.bl : Nat)]
/-- A reader lies at block g. -/
def RB (w : World) (g : Nat) (s : RS) : Prop := w.heap[g]? = some (.cells s.cells 88 (0, 0))
theorem RB.lt {w : World} {g : Nat} {s : RS} (h : RB w g s) : g < w.heap.size := (Array.getElem?_eq_some_iff.1 h).1
theorem RB.cell {w : World} {g : Nat} {s : RS} (h : RB w g s) (i : Nat) : w.cell? ⟨g, i, none⟩ = s.cells[i]? := cell_of_block h i
theorem RB.c0 {w : World} {g : Nat} {s : RS} (h : RB w g s) : w.cell? ⟨g, 0, none⟩ = some (.slice s.a s.n s.c) := (h.cell 0).trans rfl
theorem RB.c1 {w : World} {g : Nat} {s : RS} (h : RB w g s) : w.cell? ⟨g, 1, none⟩ = some (.int .i64 (s.p : Nat)) := (h.cell 1).trans rfl
theorem RB.c2 {w : World} {g : Nat} {s : RS} (h : RB w g s) : w.cell? ⟨g, 2, none⟩ = some (.pointer s.no) := (h.cell 2).trans rfl
theorem RB.c3 {w : World} {g : Nat} {s : RS} (h : RB w g s) : w.cell? ⟨g, 3, none⟩ = some (s.W) := (h.cell 3).trans rfl
theorem RB.c4 {w : World} {g : Nat} {s : RS} (h : RB w g s) : w.cell? ⟨g, 4, none⟩ = some (s.M) := (h.cell 4).trans rfl
theorem RB.c5 {w : World} {g : Nat} {s : RS} (h : RB w g s) : w.cell? ⟨g, 5, none⟩ = some (s.A) := (h.cell 5).trans rfl
theorem RB.c6 {w : World} {g : Nat} {s : RS} (h : RB w g s) : w.cell? ⟨g, 6, none⟩ = some (s.B) := (h.cell 6).trans rfl
theorem RB.c7 {w : World} {g : Nat} {s : RS} (h : RB w g s) : w.cell? ⟨g, 7, none⟩ = some (s.C) := (h.cell 7).trans rfl
theorem RB.c8 {w : World} {g : Nat} {s : RS} (h : RB w g s) : w.cell? ⟨g, 8, none⟩ = some (s.P 0) := (h.cell 8).trans rfl
theorem RB.c9 {w : World} {g : Nat} {s : RS} (h : RB w g s) : w.cell? ⟨g, 9, none⟩ = some (s.P 1) := (h.cell 9).trans rfl
theorem RB.c10 {w : World} {g : Nat} {s : RS} (h : RB w g s) : w.cell? ⟨g, 10, none⟩ = some (s.P 2) := (h.cell 10).trans rfl
theorem RB.c11 {w : World} {g : Nat} {s : RS} (h : RB w g s) : w.cell? ⟨g, 11, none⟩ = some (s.P 3) := (h.cell 11).trans rfl
theorem RB.c12 {w : World} {g : Nat} {s : RS} (h : RB w g s) : w.cell? ⟨g, 12, none⟩ = some (s.P 4) := (h.cell 12).trans rfl
theorem RB.c13 {w : World} {g : Nat} {s : RS} (h : RB w g s) : w.cell? ⟨g, 13, none⟩ = some (s.P 5) := (h.cell 13).trans rfl
theorem RB.c14 {w : World} {g : Nat} {s : RS} (h : RB w g s) : w.cell? ⟨g, 14, none⟩ = some (.int .i64 (s.bl : Nat)) := (h.cell 14).trans rfl
theorem RB.free {w : World} {g : Nat} {s : RS} (h : RB w g s) (i : Nat) : w.frozen? ⟨g, i, none⟩ = false := unfrozen_of_block h i
theorem RB.below {w w' : World} {g B : Nat} {s : RS} (h : RB w g s) (hb : Below B w w') (hg : g < B) : RB w' g s := (hb.block g hg).trans h
theorem RB.other {w : World} {g b o : Nat} {s : RS} (h : RB w g s) (hb : g ≠ b) (v : Value) : RB (w.setCell ⟨b, o, none⟩ v) g s := (Below.heap_setCell _ _ _ _ hb).trans h
theorem RB.setP {w : World} {g : Nat} {s : RS} (h : RB w g s) (q : Nat) : RB (w.setCell ⟨g, 1, none⟩ (.int .i64 (q : Nat))) g { s with p := q } := by
  have := block_setCell h (i := 1) (.int .i64 (q : Nat))
  unfold RB; rw [this]; rfl
theorem RB.setNo {w : World} {g : Nat} {s : RS} (h : RB w g s) (q : Option Addr) : RB (w.setCell ⟨g, 2, none⟩ (.pointer q)) g { s with no := q } := by
  have := block_setCell h (i := 2) (.pointer q)
  unfold RB; rw [this]; rfl
theorem RB.setW {w : World} {g : Nat} {s : RS} (h : RB w g s) (v : Value) : RB (w.setCell ⟨g, 3, none⟩ v) g { s with W := v } := by
  have := block_setCell h (i := 3) v
  unfold RB; rw [this]; rfl
theorem RB.setM {w : World} {g : Nat} {s : RS} (h : RB w g s) (v : Value) : RB (w.setCell ⟨g, 4, none⟩ v) g { s with M := v } := by
  have := block_setCell h (i := 4) v
  unfold RB; rw [this]; rfl
theorem RB.setA {w : World} {g : Nat} {s : RS} (h : RB w g s) (v : Value) : RB (w.setCell ⟨g, 5, none⟩ v) g { s with A := v } := by
  have := block_setCell h (i := 5) v
  unfold RB; rw [this]; rfl
theorem RB.setB {w : World} {g : Nat} {s : RS} (h : RB w g s) (v : Value) : RB (w.setCell ⟨g, 6, none⟩ v) g { s with B := v } := by
  have := block_setCell h (i := 6) v
  unfold RB; rw [this]; rfl
theorem RB.setC {w : World} {g : Nat} {s : RS} (h : RB w g s) (v : Value) : RB (w.setCell ⟨g, 7, none⟩ v) g { s with C := v } := by
  have := block_setCell h (i := 7) v
  unfold RB; rw [this]; rfl
theorem RB.setBl {w : World} {g : Nat} {s : RS} (h : RB w g s) (q : Nat) : RB (w.setCell ⟨g, 14, none⟩ (.int .i64 (q : Nat))) g { s with bl := q } := by
  have := block_setCell h (i := 14) (.int .i64 (q : Nat))
  unfold RB; rw [this]; rfl
def updP (P : Nat → Value) (k : Nat) (v : Value) : Nat → Value := fun i => if i = k then v else P i
theorem RB.cellP {w : World} {g : Nat} {s : RS} (h : RB w g s) {k : Nat} (hk : k < 6) : w.cell? ⟨g, 8 + k, none⟩ = some (s.P k) := by
  rw [h.cell]
  rcases (show k = 0 ∨ k = 1 ∨ k = 2 ∨ k = 3 ∨ k = 4 ∨ k = 5 by omega) with rfl | rfl | rfl | rfl | rfl | rfl <;> rfl
theorem RB.setPl {w : World} {g : Nat} {s : RS} (h : RB w g s) {k : Nat} (hk : k < 6) (v : Value) : RB (w.setCell ⟨g, 8 + k, none⟩ v) g { s with P := updP s.P k v } := by
  have := block_setCell h (i := 8 + k) v
  unfold RB; rw [this]
  rcases (show k = 0 ∨ k = 1 ∨ k = 2 ∨ k = 3 ∨ k = 4 ∨ k = 5 by omega) with rfl | rfl | rfl | rfl | rfl | rfl <;> rfl
/-- A refusal lies at block N. -/
def Rf (w : World) (N : Nat) (e : Er) : Prop := w.heap[N]? = some (.cells #[.int .i64 (e.1 : Nat), .int .i64 (e.2 : Nat)] 85 (0, 0))
theorem Rf.lt {w : World} {N : Nat} {e : Er} (h : Rf w N e) : N < w.heap.size := (Array.getElem?_eq_some_iff.1 h).1
theorem Rf.below {w w' : World} {B N : Nat} {e : Er} (h : Rf w N e) (hb : Below B w w') (hg : N < B) : Rf w' N e := (hb.block N hg).trans h
/-- The reader has refused; else it holds what s holds. -/
def RErr (w : World) (g : Nat) (s : RS) (e : Er) : Prop := ∃ p N, RB w g { s with p := p, no := some ⟨N, 0, none⟩ } ∧ g < N ∧ Rf w N e
theorem But.rf {w w' : World} {g N B : Nat} {e : Er} (h : But g B w w') (hB : N < B) (hn : N ≠ g) (hr : Rf w N e) : Rf w' N e := (h.2.2.2.2 N hB hn).trans hr
theorem RErr.below {w w' : World} {g : Nat} {s : RS} {e : Er} (h : RErr w g s e) (hb : Below w.heap.size w w') : RErr w' g s e := by
  obtain ⟨p, N, h1, h3, h4⟩ := h
  exact ⟨p, N, h1.below hb h1.lt, h3, h4.below hb h4.lt⟩
theorem RErr.lt {w : World} {g : Nat} {s : RS} {e : Er} (h : RErr w g s e) : g < w.heap.size := by obtain ⟨p, N, h1, _⟩ := h; exact h1.lt
/-- A reader that reads on at a place, or has refused. -/
def Rx (w : World) (g : Nat) (s : RS) (x : Except Er Nat) : Prop :=
  match x with
  | .ok q => RB w g { s with p := q, no := none }
  | .error e => RErr w g s e
theorem Rx.form {w : World} {g : Nat} {s : RS} {x : Except Er Nat} (h : Rx w g s x) : ∃ p no, RB w g { s with p := p, no := no } := by
  cases x with
  | ok q => exact ⟨_, _, h⟩
  | error e => obtain ⟨p, N, h1, _⟩ := h; exact ⟨_, _, h1⟩
theorem Rx.lt {w : World} {g : Nat} {s : RS} {x : Except Er Nat} (h : Rx w g s x) : g < w.heap.size := by obtain ⟨_, _, h⟩ := h.form; exact h.lt
theorem Rx.below {w w' : World} {g : Nat} {s : RS} {x : Except Er Nat} (h : Rx w g s x) (hb : Below w.heap.size w w') : Rx w' g s x := by
  cases x with
  | ok q => exact RB.below h hb (RB.lt h)
  | error e => exact RErr.below h hb
set_option maxHeartbeats 400000 in
theorem refuse_any (g : Nat) (s : RS) (p y : Nat) (w : World) (h : RB w g s) :
    Calls Tryz.prog 84 #[.pointer (some ⟨g, 0, none⟩), .int .i64 (p : Nat), .int .i64 (y : Nat)] w fun e w' => e = .returned (.tuple #[]) ∧ RErr w' g s (p, y) ∧ But g w.heap.size w w' := by
  have hb := box_below w (.cells #[.int .i64 (p : Nat), .int .i64 (y : Nat)] 85)
  have h' := h.below hb h.lt
  have f2 := h'.free 2
  have c2 := h'.c2
  have hlt := h.lt
  have x2 := h.c2
  have y2 := h.free 2
  go_enter Tryz.func84, Tryz.ntmps84
  go_wp2_with fail
  have hs := h.setNo (some ⟨w.heap.size, 0, none⟩)
  have hb2 := box_below (w.setCell ⟨g, 2, none⟩ (.pointer (some ⟨w.heap.size, 0, none⟩))) (.cells #[.int .i64 (p : Nat), .int .i64 (y : Nat)] 85)
  have hN := heap_alloc_new (w.setCell ⟨g, 2, none⟩ (.pointer (some ⟨w.heap.size, 0, none⟩))) (.cells #[.int .i64 (p : Nat), .int .i64 (y : Nat)] 85)
  have hz : (w.setCell ⟨g, 2, none⟩ (.pointer (some ⟨w.heap.size, 0, none⟩))).heap.size = w.heap.size := by simp [World.setCell]
  rw [hz] at hN
  refine bodyPost_end (v := .tuple #[]) (by simp [results, Tryz.results84, go_sem]) rfl ⟨rfl, ⟨_, w.heap.size, hs.below hb2 hs.lt, hlt, hN⟩, ?_⟩
  exact ((But.refl g w.heap.size w).setCell 2 _).trans (But.of_below (hb2.mono (by rw [hz]; exact Nat.le_refl _)))
end Go.Proofs.YtplmmamebfpcjaaGreatDoor
end
section
/- reader.number: its contract. -/
namespace Go.Proofs.YtplmmamebfpcjaaGreatDoor
open Go.RowKit Go.Sort Go.Joins
set_option linter.unusedVariables false
set_option maxRecDepth 100000
theorem getR_in {l : List UInt8} {p : Nat} (h : p + 4 ≤ l.length) : Oc.getR l (p : Nat) = (Oc.num4 l p, (p : Int) + 4, 0) := by
  unfold Oc.getR
  rw [if_neg (by omega), if_neg (by omega)]
  rfl
theorem getR_out {l : List UInt8} {p : Nat} (h : ¬ p + 4 ≤ l.length) : ∃ y : Nat, y ≠ 0 ∧ Oc.getR l (p : Nat) = (0, 0, (y : Int)) := by
  unfold Oc.getR
  by_cases h1 : (p : Int) < 0 ∨ (l.length : Int) < p
  · exact ⟨1, by omega, by rw [if_pos h1]; rfl⟩
  · exact ⟨10, by omega, by rw [if_neg h1, if_pos (by omega)]; rfl⟩
/-- The bytes that a reader reads. -/
structure Fl (w : World) (s : RS) (l : List UInt8) : Prop where
  n : s.n = l.length
  le : l.length ≤ s.c
  lim : l.length ≤ 4194304
  at' : Oc.BS w s.a l
theorem Fl.below {w w' : World} {s : RS} {l : List UInt8} (h : Fl w s l) (hb : Below w.heap.size w w') : Fl w' s l := ⟨h.n, h.le, h.lim, h.at'.below hb⟩
/-- What a reader's call leaves that reads to q, or refuses. -/
def NumP (l : List UInt8) (w : World) (g : Nat) (s : RS) (x : Except Er (Nat × Nat)) (f : Nat → Value) (e : Ending) (w' : World) : Prop :=
  But g w.heap.size w w' ∧ match x with
  | .ok (n, q) => e = .returned (f n) ∧ RB w' g { s with p := q }
  | .error r => e = .returned (f 0) ∧ RErr w' g s r
set_option maxHeartbeats 4000000 in
theorem number_any (g : Nat) (s : RS) (l : List UInt8) (lo hi y : Nat) (w : World) (hlo : lo < 4294967296) (hhi : hi < 4294967296) (h : RB w g s) (h0 : s.no = none) (hF : Fl w s l) :
    Calls Tryz.prog 85 #[.pointer (some ⟨g, 0, none⟩), .int .u32 (lo : Nat), .int .u32 (hi : Nat), .int .i64 (y : Nat)] w (NumP l w g s (numP l lo hi y s.p) (fun n => .int .u32 (n : Nat))) := by
  have hR := fun W h1 => refuse_any g s l.length 10 W h1
  have hR2 := fun W h1 => refuse_any g s s.p y W h1
  have x0 := h.c0
  have x1 := h.c1
  have x2 := h.c2
  have hd : Below w.heap.size w w.drew := (Below.refl _ _).drew
  have hG := Oc.get_any s.a s.c l (s.p : Nat) w.drew (by have := hF.lim; omega) hF.le (hF.at'.below hd)
  have hll := hF.lim
  rw [h0] at x2
  have HS := h
  have hn0 := hF.n
  obtain ⟨sa, sn, sc, p, no, sW, sM, sA, sB, sC, sP, sbl⟩ := s
  simp only at *
  subst h0
  subst hn0
  clear hF
  have HH : Hid (RB w g _) := HS
  clear HS h
  by_cases h4 : p + 4 ≤ l.length
  · rw [getR_in h4] at hG
    have hn := Oc.num4_lt l p
    obtain ⟨n, hnn⟩ : ∃ n, n = Oc.num4 l p := ⟨_, rfl⟩
    rw [← hnn] at hG hn
    by_cases h5 : n < lo
    · rw [numP_bad h4 (by rw [← hnn]; exact .inl h5)]
      clear hnn
      go_enter Tryz.func85, Tryz.ntmps85
      go_wp2_with fail
      go_region_held3 (fun w' => w'.cell? ⟨g, 0, none⟩ = some (.slice sa l.length sc) ∧ w'.cell? ⟨g, 1, none⟩ = some (.int .i64 (p : Nat))) (go_keep) ((go_at_call 103; refine hG.mono ?_; rintro e w1 ⟨rfl, hb1⟩; have h1 := HH.out.below (hd.trans hb1) HH.out.lt; have z0 := h1.c0; have z1 := h1.c1; have f1 := h1.free 1))
      have B1 : Below w.heap.size w w1 := hd.trans hb1
      clear hG
      go_wp2_with fail
      refine (hR2 w1 h1).mono ?_
      rintro e w2 ⟨rfl, hb2, hb3⟩
      go_wp2_with fail
      go_ret
      exact ⟨(But.of_below B1).trans (hb3.mono B1.size), rfl, hb2⟩
    · by_cases h6 : hi < n
      · rw [numP_bad h4 (by rw [← hnn]; exact .inr h6)]
        clear hnn
        go_enter Tryz.func85, Tryz.ntmps85
        go_wp2_with fail
        go_region_held3 (fun w' => w'.cell? ⟨g, 0, none⟩ = some (.slice sa l.length sc) ∧ w'.cell? ⟨g, 1, none⟩ = some (.int .i64 (p : Nat))) (go_keep) ((go_at_call 103; refine hG.mono ?_; rintro e w1 ⟨rfl, hb1⟩; have h1 := HH.out.below (hd.trans hb1) HH.out.lt; have z0 := h1.c0; have z1 := h1.c1; have f1 := h1.free 1))
        have B1 : Below w.heap.size w w1 := hd.trans hb1
        clear hG
        go_wp2_with fail
        refine (hR2 w1 h1).mono ?_
        rintro e w2 ⟨rfl, hb2, hb3⟩
        go_wp2_with fail
        go_ret
        exact ⟨(But.of_below B1).trans (hb3.mono B1.size), rfl, hb2⟩
      · rw [numP_ok h4 (by rw [← hnn]; omega), ← hnn]
        clear hnn
        go_enter Tryz.func85, Tryz.ntmps85
        go_wp2_with fail
        go_region_held3 (fun w' => w'.cell? ⟨g, 0, none⟩ = some (.slice sa l.length sc) ∧ w'.cell? ⟨g, 1, none⟩ = some (.int .i64 (p : Nat))) (go_keep) ((go_at_call 103; refine hG.mono ?_; rintro e w1 ⟨rfl, hb1⟩; have h1 := HH.out.below (hd.trans hb1) HH.out.lt; have z0 := h1.c0; have z1 := h1.c1; have f1 := h1.free 1))
        have B1 : Below w.heap.size w w1 := hd.trans hb1
        clear hG
        go_wp2_with fail
        have hs := h1.setP (p + 4)
        go_ret
        exact ⟨(But.of_below B1).setCell 1 _, rfl, hs⟩
  · obtain ⟨y0, hy0, hy1⟩ := getR_out h4
    have hy : ((y0 : Int) == 0) = false := by simp; omega
    rw [hy1] at hG
    rw [numP_short h4]
    go_enter Tryz.func85, Tryz.ntmps85
    go_wp2_with fail
    go_region_held3 (fun w' => w'.cell? ⟨g, 0, none⟩ = some (.slice sa l.length sc) ∧ w'.cell? ⟨g, 1, none⟩ = some (.int .i64 (p : Nat))) (go_keep) ((go_at_call 103; refine hG.mono ?_; rintro e w1 ⟨rfl, hb1⟩; have h1 := HH.out.below (hd.trans hb1) HH.out.lt; have z0 := h1.c0; have z1 := h1.c1; have f1 := h1.free 1))
    have B1 : Below w.heap.size w w1 := hd.trans hb1
    clear hG
    go_wp2_with fail
    refine (hR w1 h1).mono ?_
    rintro e w2 ⟨rfl, hb2, hb3⟩
    go_wp2_with fail
    go_ret
    exact ⟨(But.of_below B1).trans (hb3.mono B1.size), rfl, hb2⟩
end Go.Proofs.YtplmmamebfpcjaaGreatDoor
end
