import Derived.Test.YtplmmamebfpcjaaGreatDoorJ8
import Derived.Test.YtplmmamebfpcjaaGreatDoorJ3
import Derived.Test.YtplmmamebfpcjaaGreatDoorJ5
import Derived.Deep.RegionWith
import Derived.Deep.DeepCutAuto
import Derived.Test.YtplmmamebfpcjaaGreatDoorJ1
section
/- model.New: its contract; what a model is in memory. -/
namespace Go.Proofs.YtplmmamebfpcjaaGreatDoor
open Go.RowKit Go.Sort Go.Joins Go.Maps Go.WideMaps
set_option linter.unusedVariables false
/-- A model of its own lies at block g: all that it holds lies from lo on. -/
def ModelAt (w : World) (lo g : Nat) (ws : List ByteArray) (ms : List Mg) (A B C : List Sp) : Prop :=
  ∃ a0 c0 a1 c1 a2 c2 a3 c3 a4 c4 gt gr, lo ≤ g ∧ lo ≤ gr ∧ w.heap[g]? = some (.cells #[.slice a0 ws.length c0, .slice a1 ms.length c1, .slice a2 A.length c2, .slice a3 B.length c3, .slice a4 C.length c4, .pointer (some ⟨gt, 0, none⟩), .map (some gr), .int .i64 (longM ws : Nat)] 106 (0, 0)) ∧
    OwnD w lo a0 c0 a1 c1 a2 c2 a3 c3 a4 c4 ws ms A B C ∧ OwnT w lo gt A B C ∧ MapI w 143 pairV gr ms.length (rankF ms)
/-- A model whose merges have no ranks yet. -/
def MPre (w : World) (lo g : Nat) (ws : List ByteArray) (ms : List Mg) (A B C : List Sp) : Prop :=
  ∃ a0 c0 a1 c1 a2 c2 a3 c3 a4 c4 gt gr, lo ≤ g ∧ lo ≤ gr ∧ w.heap[g]? = some (.cells #[.slice a0 ws.length c0, .slice a1 ms.length c1, .slice a2 A.length c2, .slice a3 B.length c3, .slice a4 C.length c4, .pointer (some ⟨gt, 0, none⟩), .map (some gr), .int .i64 (longM ws : Nat)] 106 (0, 0)) ∧
    OwnD w lo a0 c0 a1 c1 a2 c2 a3 c3 a4 c4 ws ms A B C ∧ OwnT w lo gt A B C ∧ MapI w 143 pairV gr 0 (fun _ => none)
theorem MPre.below {w w' : World} {lo g : Nat} {ws : List ByteArray} {ms : List Mg} {A B C : List Sp} (h : MPre w lo g ws ms A B C) (hb : Below w.heap.size w w') : MPre w' lo g ws ms A B C := by
  obtain ⟨a0, c0, a1, c1, a2, c2, a3, c3, a4, c4, gt, gr, h1, h2, h3, h4, h5, h6⟩ := h
  exact ⟨a0, c0, a1, c1, a2, c2, a3, c3, a4, c4, gt, gr, h1, h2, (hb.block _ (Array.getElem?_eq_some_iff.1 h3).1).trans h3, h4.below hb, h5.below hb, h6.below hb h6.lt⟩
theorem ModelAt.away {w : World} {lo g : Nat} {ws : List ByteArray} {ms : List Mg} {A B C : List Sp} (h : ModelAt w lo g ws ms A B C) {b o : Nat} (hb : b < lo) (v : Value) : ModelAt (w.setCell ⟨b, o, none⟩ v) lo g ws ms A B C := by
  obtain ⟨a0, c0, a1, c1, a2, c2, a3, c3, a4, c4, gt, gr, h1, h2, h3, h4, h5, h6⟩ := h
  have hk : ∀ k, lo ≤ k → (w.setCell ⟨b, o, none⟩ v).heap[k]? = w.heap[k]? := fun k hk => Below.heap_setCell _ _ _ k (fun e => by have e' : k = b := e; omega)
  exact ⟨a0, c0, a1, c1, a2, c2, a3, c3, a4, c4, gt, gr, h1, h2, (hk _ h1).trans h3, h4.away hb v, h5.away hb v, h6.kept (hk _ h2)⟩
theorem ModelAt.low {w : World} {lo lo' g : Nat} {ws : List ByteArray} {ms : List Mg} {A B C : List Sp} (h : ModelAt w lo g ws ms A B C) (hl : lo' ≤ lo) : ModelAt w lo' g ws ms A B C := by
  obtain ⟨a0, c0, a1, c1, a2, c2, a3, c3, a4, c4, gt, gr, h1, h2, h3, h4, h5, h6⟩ := h
  exact ⟨a0, c0, a1, c1, a2, c2, a3, c3, a4, c4, gt, gr, by omega, by omega, h3, h4.low hl, h5.low hl, h6⟩
theorem ModelAt.below {w w' : World} {lo g : Nat} {ws : List ByteArray} {ms : List Mg} {A B C : List Sp} (h : ModelAt w lo g ws ms A B C) (hb : Below w.heap.size w w') : ModelAt w' lo g ws ms A B C := by
  obtain ⟨a0, c0, a1, c1, a2, c2, a3, c3, a4, c4, gt, gr, h1, h2, h3, h4, h5, h6⟩ := h
  exact ⟨a0, c0, a1, c1, a2, c2, a3, c3, a4, c4, gt, gr, h1, h2, (hb.block _ (Array.getElem?_eq_some_iff.1 h3).1).trans h3, h4.below hb, h5.below hb, h6.below hb h6.lt⟩
theorem checkD_num {ws : List ByteArray} {ms : List Mg} {A B C : List Sp} (h : (numF ws.length ms.length).1 ≠ 0) : checkD ws ms A B C = numF ws.length ms.length := by
  unfold checkD numF at *
  by_cases h1 : 4096 < ms.length
  · rw [if_pos h1, if_pos h1]
  · rw [if_neg h1] at h
    by_cases h2 : ws.length ≠ ms.length
    · rw [if_neg h1, if_neg h1, if_pos h2, if_pos h2]
    · rw [if_neg h2] at h; exact absurd rfl h
theorem num_zero {n m : Nat} (h : (numF n m).1 = 0) : m ≤ 4096 ∧ n = m := by
  unfold numF at h
  by_cases h1 : 4096 < m
  · rw [if_pos h1] at h; cases h
  · rw [if_neg h1] at h
    by_cases h2 : n ≠ m
    · rw [if_pos h2] at h; cases h
    · exact ⟨by omega, by simpa using h2⟩
theorem checkD_zero {ws : List ByteArray} {ms : List Mg} {A B C : List Sp} (h : (numF ws.length ms.length).1 = 0) : checkD ws ms A B C =
    if (checkA A B C).1 ≠ 0 then checkA A B C
    else if (firstBad (badW ws) ws.length).1 ≠ 0 then ((firstBad (badW ws) ws.length).1, 4, (firstBad (badW ws) ws.length).2)
    else if (firstBad (badM ws ms) ms.length).1 ≠ 0 then ((firstBad (badM ws ms) ms.length).1, 5, (firstBad (badM ws ms) ms.length).2)
    else (0, 0, 0) := by
  obtain ⟨h1, h2⟩ := num_zero h
  unfold checkD
  rw [if_neg (by omega), if_neg (by simpa using h2)]
set_option maxRecDepth 100000 in
set_option maxHeartbeats 4000000 in
theorem mnew_any (aw am a b c : Option Addr) (cw cm ca cb cc : Nat) (ws : List ByteArray) (ms : List Mg) (A B C : List Sp) (w : World) (hwf : MWf ms) (hn : ws.length ≤ 4611686018427387) (hW : WSP w aw ws) (hM : MSP w am ms) (hA : Lst w a ca A) (hB : Lst w b cb B) (hC : Lst w c cc C) (hG : GL w) :
    Calls Tryz.prog 27 #[.agg #[.slice aw ws.length cw, .slice am ms.length cm, .slice a A.length ca, .slice b B.length cb, .slice c C.length cc]] w fun e w' => ∃ p, e = .returned (.tuple #[.pointer p, f3V (checkD ws ms A B C)]) ∧ ((checkD ws ms A B C).1 = 0 → ∃ g, p = some ⟨g, 0, none⟩ ∧ ModelAt w' w.heap.size g ws ms A B C) ∧ ((checkD ws ms A B C).1 ≠ 0 → p = none) ∧ Below w.heap.size w w' := by
  have hD := DBox.new w (.slice aw ws.length cw) (.slice am ms.length cm) (.slice a A.length ca) (.slice b B.length cb) (.slice c C.length cc)
  have hb := box_below w (.cells #[.slice aw ws.length cw, .slice am ms.length cm, .slice a A.length ca, .slice b B.length cb, .slice c C.length cc] 26)
  have hR := heap_alloc_new (w.alloc (.cells #[.slice aw ws.length cw, .slice am ms.length cm, .slice a A.length ca, .slice b B.length cb, .slice c C.length cc] 26)) (.cells #[.int .i64 0, .int .i64 0, .int .i64 0] 65)
  have hb2 := hb.alloc hb.size (.cells #[.int .i64 0, .int .i64 0, .int .i64 0] 65)
  have hD2 := hD.below (box_below (w.alloc (.cells #[.slice aw ws.length cw, .slice am ms.length cm, .slice a A.length ca, .slice b B.length cb, .slice c C.length cc] 26)) (.cells #[.int .i64 0, .int .i64 0, .int .i64 0] 65)) hD.lt
  rw [show (w.alloc (.cells #[.slice aw ws.length cw, .slice am ms.length cm, .slice a A.length ca, .slice b B.length cb, .slice c C.length cc] 26)).heap.size = w.heap.size + 1 by simp] at hR
  have hNum := fun wx => numbers_any aw am a b c ws.length cw ms.length cm A.length ca B.length cb C.length cc wx
  have HW0 : Hid (WSP w aw ws) := hW
  have HM0 : Hid (MSP w am ms) := hM
  have HA0 : Hid (Lst w a ca A) := hA
  have HB0 : Hid (Lst w b cb B) := hB
  have HC0 : Hid (Lst w c cc C) := hC
  have HG0 : Hid (GL w) := hG
  obtain ⟨⟨y, li, ro⟩, hy⟩ : ∃ y, y = numF ws.length ms.length := ⟨_, rfl⟩
  rw [← hy] at hNum
  have HN1 : Hid (y ≠ 0 → checkD ws ms A B C = (y, li, ro)) := fun h => by rw [hy]; exact checkD_num (by rw [← hy]; exact h)
  have HN0 : Hid (y = 0 → (numF ws.length ms.length).1 = 0) := fun h => by rw [← hy]; exact h
  clear hD hb hy hW hM hA hB hC hG
  obtain ⟨E, hE⟩ : ∃ E, E = checkD ws ms A B C := ⟨_, rfl⟩
  have HE : Hid (E = checkD ws ms A B C) := hE
  rw [← hE] at HN1 ⊢
  clear hE
  have hsz : ((w.alloc (.cells #[.slice aw ws.length cw, .slice am ms.length cm, .slice a A.length ca, .slice b B.length cb, .slice c C.length cc] 26)).alloc (.cells #[.int .i64 0, .int .i64 0, .int .i64 0] 65)).heap.size = w.heap.size + 1 + 1 := by simp
  have x0 := hD2.c0
  have x1 := hD2.c1
  have x2 := hD2.c2
  have x3 := hD2.c3
  have x4 := hD2.c4
  go_enter Tryz.func27, Tryz.ntmps27
  go_wp2_with fail
  obtain ⟨Y, hY⟩ : ∃ Y, Y = ((w.alloc (.cells #[.slice aw ws.length cw, .slice am ms.length cm, .slice a A.length ca, .slice b B.length cb, .slice c C.length cc] 26)).alloc (.cells #[.int .i64 0, .int .i64 0, .int .i64 0] 65)) := ⟨_, rfl⟩
  rw [← hY] at hb2 hD2 hR hsz ⊢
  clear hY x0 x1 x2 x3 x4
  obtain ⟨z, hz⟩ : ∃ z, z = w.heap.size := ⟨_, rfl⟩
  have HZ : Hid (z = w.heap.size) := hz
  rw [← hz] at hD2 hR hsz ⊢
  clear hz
  refine (hNum Y).mono ?_
  rintro e w1 ⟨rfl, hb1⟩
  clear hNum
  unfold f3V
  obtain ⟨yi, hyi⟩ : ∃ q : Int, q = (y : Nat) := ⟨_, rfl⟩
  obtain ⟨lii, hlii⟩ : ∃ q : Int, q = (li : Nat) := ⟨_, rfl⟩
  obtain ⟨roi, hroi⟩ : ∃ q : Int, q = (ro : Nat) := ⟨_, rfl⟩
  simp only []
  rw [← hyi, ← hlii, ← hroi]
  have HYI : Hid (yi = (y : Nat) ∧ lii = (li : Nat) ∧ roi = (ro : Nat)) := ⟨hyi, hlii, hroi⟩
  have hD1 := hD2.below hb1 (by omega)
  have hR1 := (hb1.block (z + 1) (by omega)).trans hR
  have hB1 := hb2.trans (hb1.mono hb2.size)
  have hs1 : z + 1 + 1 ≤ w1.heap.size := by have := hb1.size; omega
  have hbf := box_below w1 (.cells #[.int .i64 yi, .int .i64 lii, .int .i64 roi] 65)
  have hF := heap_alloc_new w1 (.cells #[.int .i64 yi, .int .i64 lii, .int .i64 roi] 65)
  have hD3 := hD1.below hbf (by omega)
  have hR3 := (hbf.block (z + 1) (by omega)).trans hR1
  have hB3 := hB1.trans (hbf.mono hB1.size)
  have hs3 : z + 1 + 1 ≤ (w1.alloc (.cells #[.int .i64 yi, .int .i64 lii, .int .i64 roi] 65)).heap.size := by simp; omega
  clear hD2 hR hb2 hb1 hsz hD1 hR1 hB1 hbf
  by_cases h0 : y = 0
  · obtain ⟨hm4, hnm⟩ := num_zero (HN0.out h0)
    have HCD : Hid (E = _) := HE.out.trans (checkD_zero (HN0.out h0))
    have HNM : Hid (ws.length = ms.length) := hnm
    have hw4 : ws.length ≤ 4096 := by omega
    obtain rfl : yi = 0 := by rw [hyi, h0]; rfl
    clear HN1 HN0 hnm hyi hlii hroi h0
    have f0 := cell_of_block hF 0
    have x2 := hD3.c2
    have x3 := hD3.c3
    have x4 := hD3.c4
    have e1 := fun j => unfrozen_of_block hF j
    have HNw := fun wx h1 h2 h3 h4 => new_any a b c ca cb cc A B C wx h1 h2 h3 h4
    obtain ⟨⟨ya, la, ra⟩, hya⟩ : ∃ q, q = checkA A B C := ⟨_, rfl⟩
    rw [← hya] at HNw
    have HYA : Hid ((ya, la, ra) = checkA A B C) := hya
    clear hya
    go_wp2_with fail
    obtain ⟨W3, hW3⟩ : ∃ W3, W3 = w1.alloc (.cells #[.int .i64 0, .int .i64 lii, .int .i64 roi] 65) := ⟨_, rfl⟩
    rw [← hW3] at hF hD3 hR3 hB3 hs3 x2 x3 x4 f0 e1 ⊢
    clear hW3
    clear x2 x3 x4 f0 e1 hF
    have hz3 : z + 1 + 1 ≤ W3.heap.size := by omega
    refine (HNw W3 (HA0.out.below hB3) (HB0.out.below hB3) (HC0.out.below hB3) (HG0.out.below hB3)).mono ?_
    rintro e w4 ⟨pt, rfl, hT, -, hb4⟩
    clear HNw
    have hD4 := hD3.below hb4 (by omega)
    have hR4 := (hb4.block (z + 1) (by omega)).trans hR3
    have hB4 := hB3.trans (hb4.mono hB3.size)
    have hs4 : z + 1 + 1 ≤ w4.heap.size := by have := hb4.size; omega
    unfold wrV
    obtain ⟨yai, hyai⟩ : ∃ q : Int, q = (ya : Nat) := ⟨_, rfl⟩
    obtain ⟨lai, hlai⟩ : ∃ q : Int, q = (la : Nat) := ⟨_, rfl⟩
    obtain ⟨rai, hrai⟩ : ∃ q : Int, q = (ra : Nat) := ⟨_, rfl⟩
    simp only []
    rw [← hyai, ← hlai, ← hrai]
    have HYAI : Hid (yai = (ya : Nat) ∧ lai = (la : Nat) ∧ rai = (ra : Nat)) := ⟨hyai, hlai, hrai⟩
    have hbg := box_below w4 (.cells #[.int .i64 yai, .int .i64 lai, .int .i64 rai] 109)
    have hF := heap_alloc_new w4 (.cells #[.int .i64 yai, .int .i64 lai, .int .i64 rai] 109)
    have hD5 := hD4.below hbg (by omega)
    have hR5 := (hbg.block (z + 1) (by omega)).trans hR4
    have hB5 := hB4.trans (hbg.mono hB4.size)
    have hs5 : z + 1 + 1 ≤ (w4.alloc (.cells #[.int .i64 yai, .int .i64 lai, .int .i64 rai] 109)).heap.size := by simp; omega
    clear hD3 hR3 hB3 hs3 hb4 hD4 hR4
    by_cases ha0 : ya = 0
    · obtain ⟨g, rfl, hTg⟩ := hT ha0
      obtain rfl : yai = 0 := by rw [hyai, ha0]; rfl
      have HT5 := hTg.below hbg
      have HY0 : Hid ((checkA A B C).1 = 0) := by rw [← HYA.out]; exact ha0
      have hF0 := cell_of_block hF 0
      have hF1 := cell_of_block hF 1
      have hF2 := cell_of_block hF 2
      have e1 := fun j => unfrozen_of_block hF j
      have x0 := hD5.c0
      clear hT hTg hyai hlai hrai ha0 HYA hbg
      have HWw := fun wx h => wrongWord_any aw cw ws wx (by omega) h
      obtain ⟨⟨yw, rw_⟩, hyw⟩ : ∃ q, q = firstBad (badW ws) ws.length := ⟨_, rfl⟩
      rw [← hyw] at HWw
      have HYW : Hid ((yw, rw_) = firstBad (badW ws) ws.length) := hyw
      clear hyw
      go_wp2_with fail
      obtain ⟨W5, hW5⟩ : ∃ W5, W5 = w4.alloc (.cells #[.int .i64 0, .int .i64 lai, .int .i64 rai] 109) := ⟨_, rfl⟩
      rw [← hW5] at hD5 hR5 hB5 hs5 HT5 hF hF0 hF1 hF2 e1 x0 ⊢
      clear hW5
      clear hF hF0 hF1 hF2 e1 x0
      refine (HWw W5 (HW0.out.below hB5)).mono ?_
      rintro e w6 ⟨rfl, hb6⟩
      clear HWw
      have hD6 := hD5.below hb6 (by omega)
      have hR6 := (hb6.block (z + 1) (by omega)).trans hR5
      have hB6 := hB5.trans (hb6.mono hB5.size)
      have hs6 : z + 1 + 1 ≤ w6.heap.size := by have := hb6.size; omega
      have hT6 := HT5.below hb6
      obtain ⟨ywi, hywi⟩ : ∃ q : Int, q = (yw : Nat) := ⟨_, rfl⟩
      obtain ⟨rwi, hrwi⟩ : ∃ q : Int, q = (rw_ : Nat) := ⟨_, rfl⟩
      simp only []
      rw [← hywi, ← hrwi]
      have HYWI : Hid (ywi = (yw : Nat) ∧ rwi = (rw_ : Nat)) := ⟨hywi, hrwi⟩
      clear hD5 hR5 hB5 HT5 hb6 hB4
      by_cases hw0 : yw = 0
      · obtain rfl : ywi = 0 := by rw [hywi, hw0]; rfl
        have hRgt : WRgt ws := firstBad_zero (by rw [← HYW.out]; exact hw0)
        have HW00 : Hid ((firstBad (badW ws) ws.length).1 = 0) := by rw [← HYW.out]; exact hw0
        clear hywi hrwi hw0 HYW
        have x0 := hD6.c0
        have x1 := hD6.c1
        have x2 := hD6.c2
        have x3 := hD6.c3
        have x4 := hD6.c4
        have hz6 : z < w6.heap.size := by omega
        have HCp : ∀ wx, Below w6.heap.size w6 wx → Calls Tryz.prog 51 #[.agg #[.slice aw ws.length cw, .slice am ms.length cm, .slice a A.length ca, .slice b B.length cb, .slice c C.length cc]] wx fun e w' => ∃ v, e = .returned v ∧ Below wx.heap.size wx w' ∧ ∃ a0 c0 a1 c1 a2 c2 a3 c3 a4 c4, v = .agg #[.slice a0 ws.length c0, .slice a1 ms.length c1, .slice a2 A.length c2, .slice a3 B.length c3, .slice a4 C.length c4] ∧ OwnD w' (z + 1 + 1) a0 c0 a1 c1 a2 c2 a3 c3 a4 c4 ws ms A B C := fun wx hbx => by
          have hB' := hB6.trans (hbx.mono hB6.size)
          have := (check_pass HY0.out).1.len (by omega)
          refine (copied_any aw am a b c cw cm ca cb cc ws ms A B C wx (by omega) (by omega) (by omega) (by omega) (by omega) (fun i x hx => (hRgt.size hx).2) (HW0.out.below hB') (HM0.out.below hB') (HA0.out.below hB').at' (HB0.out.below hB').at' (HC0.out.below hB').at').mono ?_
          rintro e w' ⟨a0, c0, a1, c1, a2, c2, a3, c3, a4, c4, rfl, h2, h3⟩
          exact ⟨_, rfl, h3, a0, c0, a1, c1, a2, c2, a3, c3, a4, c4, rfl, h2.low (by have := hbx.size; omega)⟩
        have HLg : ∀ wx, Below w6.heap.size w6 wx → Calls Tryz.prog 56 #[.slice aw ws.length cw] wx fun e w' => ∃ v, e = .returned v ∧ Below wx.heap.size wx w' ∧ v = .int .i64 (longM ws : Nat) := fun wx hbx => by
          refine (longest_any aw cw ws wx (by omega) (HW0.out.below (hB6.trans (hbx.mono hB6.size)))).mono ?_
          rintro e w' ⟨rfl, rfl⟩
          exact ⟨_, rfl, Below.refl _ _, rfl⟩
        have HDx : Hid (DBox w6 z _ _ _ _ _) := hD6
        have hTg := hT6.low hz3
        have HTg : Hid (OwnT w6 (z + 1 + 1) g A B C) := hTg
        clear hT6 hTg
        go_wp2_with fail
        clear x0 x1 x2 x3 x4
        refine wp_region_mono 10 [43, 44, 45, 46, 47, 48, 49, 50, 51, 9] [qR (.agg #[.slice aw ws.length cw, .slice am ms.length cm, .slice a A.length ca, .slice b B.length cb, .slice c C.length cc]),
          fun v wx => ∃ a0 c0 a1 c1 a2 c2 a3 c3 a4 c4, v = .agg #[.slice a0 ws.length c0, .slice a1 ms.length c1, .slice a2 A.length c2, .slice a3 B.length c3, .slice a4 C.length c4] ∧ OwnD wx (z + 1 + 1) a0 c0 a1 c1 a2 c2 a3 c3 a4 c4 ws ms A B C,
          qR (.pointer (some ⟨g, 0, none⟩)),
          fun v wx => ∃ gr, v = .map (some gr) ∧ z + 1 + 1 ≤ gr ∧ MapI wx 143 pairV gr 0 (fun _ => none),
          qR (.pointer (some ⟨z, 0, none⟩)), qR (.slice aw ws.length cw), qR (.int .i64 (longM ws : Nat)),
          fun v wx => ∃ a0 c0 a1 c1 a2 c2 a3 c3 a4 c4 gr, v = .agg #[.slice a0 ws.length c0, .slice a1 ms.length c1, .slice a2 A.length c2, .slice a3 B.length c3, .slice a4 C.length c4, .pointer (some ⟨g, 0, none⟩), .map (some gr), .int .i64 (longM ws : Nat)] ∧ OwnD wx (z + 1 + 1) a0 c0 a1 c1 a2 c2 a3 c3 a4 c4 ws ms A B C ∧ z + 1 + 1 ≤ gr ∧ MapI wx 143 pairV gr 0 (fun _ => none),
          fun v wx => ∃ gm, v = .pointer (some ⟨gm, 0, none⟩) ∧ MPre wx (z + 1 + 1) gm ws ms A B C,
          fun v wx => ∃ gm, v = .pointer (some ⟨gm, 0, none⟩) ∧ MPre wx (z + 1 + 1) gm ws ms A B C] (by kernel_rfl) (by kernel_rfl) rfl rfl ?stab ?steps ?fin
        case stab =>
          intro φ hφ
          simp only [List.mem_cons, List.not_mem_nil, or_false] at hφ
          rcases hφ with rfl | rfl | rfl | rfl | rfl | rfl | rfl | rfl | rfl | rfl
          · exact fun _ _ _ _ h => h
          · rintro v wx w' hb ⟨a0, c0, a1, c1, a2, c2, a3, c3, a4, c4, h1, h2⟩
            exact ⟨a0, c0, a1, c1, a2, c2, a3, c3, a4, c4, h1, h2.below hb⟩
          · exact fun _ _ _ _ h => h
          · rintro v wx w' hb ⟨gr, h1, h2, h3⟩
            exact ⟨gr, h1, h2, h3.below hb h3.lt⟩
          · exact fun _ _ _ _ h => h
          · exact fun _ _ _ _ h => h
          · exact fun _ _ _ _ h => h
          · rintro v wx w' hb ⟨a0, c0, a1, c1, a2, c2, a3, c3, a4, c4, gr, h1, h2, h3, h4⟩
            exact ⟨a0, c0, a1, c1, a2, c2, a3, c3, a4, c4, gr, h1, h2.below hb, h3, h4.below hb h4.lt⟩
          · rintro v wx w' hb ⟨gm, h1, h2⟩
            exact ⟨gm, h1, h2.below hb⟩
          · rintro v wx w' hb ⟨gm, h1, h2⟩
            exact ⟨gm, h1, h2.below hb⟩
        case steps =>
          have hBx : ∀ wx, Below w6.drew.heap.size w6.drew wx → Below w6.heap.size w6 wx := fun wx hb => ⟨hb.os, hb.tape, hb.output, hb.size, hb.block⟩
          have hnone : ∀ (i : Nat) (o : Oper), True := fun _ _ => trivial
          refine ⟨?_, ?_, ?_, ?_, ?_, ?_, ?_, ?_, ?_, ?_, trivial⟩
          · intro a' he wx hb hd
            have hDx := HDx.out.below (hBx wx hb) hz6
            have q0 := hDx.c0
            have q1 := hDx.c1
            have q2 := hDx.c2
            have q3 := hDx.c3
            have q4 := hDx.c4
            have e1 : a'.eval (.tmp 1) = .pointer (some ⟨z, 0, none⟩) := he.get rfl
            refine mStep_read rfl ?_ rfl
            simp only [execOp, e1]
            go_simp
          · intro a' he wx hb hd
            have e1 : a'.eval (.tmp 43) = _ := hd 0 rfl _ _ rfl rfl
            exact mStep_call rfl (by simp [execOp, resolve, e1]; rfl) (HCp wx (hBx wx hb))
          · intro a' he wx hb hd
            have e1 : a'.eval (.tmp 5) = .pointer (some ⟨g, 0, none⟩) := he.get rfl
            exact mStep_read rfl (by simp [execOp, e1]) rfl
          · intro a' he wx hb hd
            refine mStep_val rfl (by simp [execOp, run_makeMap]) (box_below wx _) ⟨_, rfl, ?_, MapI.made _ _ _⟩
            have := hb.size
            simp at this
            omega
          · intro a' he wx hb hd
            have e1 : a'.eval (.tmp 1) = .pointer (some ⟨z, 0, none⟩) := he.get rfl
            exact mStep_read rfl (by simp only [execOp, e1]; go_simp) rfl
          · intro a' he wx hb hd
            have hDx := HDx.out.below (hBx wx hb) hz6
            have q0 := hDx.c0
            have e1 : a'.eval (.tmp 47) = _ := hd 4 rfl _ _ rfl rfl
            refine mStep_read rfl ?_ rfl
            simp only [execOp, e1]
            go_simp
          · intro a' he wx hb hd
            have e1 : a'.eval (.tmp 48) = _ := hd 5 rfl _ _ rfl rfl
            exact mStep_call rfl (by simp [execOp, resolve, e1]; rfl) (HLg wx (hBx wx hb))
          · intro a' he wx hb hd
            obtain ⟨a0, c0, a1, c1, a2, c2, a3, c3, a4, c4, e1, h1⟩ := hd 1 rfl _ _ rfl rfl
            have e2 : a'.eval (.tmp 45) = _ := hd 2 rfl _ _ rfl rfl
            obtain ⟨gr, e3, h3, h4⟩ := hd 3 rfl _ _ rfl rfl
            have e4 : a'.eval (.tmp 49) = _ := hd 6 rfl _ _ rfl rfl
            refine mStep_read rfl ?_ ⟨a0, c0, a1, c1, a2, c2, a3, c3, a4, c4, gr, rfl, h1, h3, h4⟩
            simp [execOp, e1, e2, e3, e4]
            go_simp
          · intro a' he wx hb hd
            obtain ⟨a0, c0, a1, c1, a2, c2, a3, c3, a4, c4, gr, e1, h1, h3, h4⟩ := hd 7 rfl _ _ rfl rfl
            have hbn := box_below wx (.cells #[.slice a0 ws.length c0, .slice a1 ms.length c1, .slice a2 A.length c2, .slice a3 B.length c3, .slice a4 C.length c4, .pointer (some ⟨g, 0, none⟩), .map (some gr), .int .i64 (longM ws : Nat)] 106)
            have hzx := (hBx wx hb).size
            refine mStep_val rfl ?_ hbn ⟨wx.heap.size, rfl, a0, c0, a1, c1, a2, c2, a3, c3, a4, c4, g, gr, by omega, h3, heap_alloc_new _ _, h1.below hbn, (HTg.out.below (hBx wx hb)).below hbn, h4.below hbn h4.lt⟩
            simp only [execOp, e1]
            go_simp
          · intro a' he wx hb hd
            obtain ⟨gm, e1, h1⟩ := hd 8 rfl _ _ rfl rfl
            exact mStep_read rfl (by simp [execOp, e1]) ⟨gm, rfl, h1⟩
        case fin =>
          rintro wx hb u43 rfl u44 - u45 rfl u46 - u47 rfl u48 rfl u49 rfl u50 - u51 - u9 ⟨gm, rfl, hPre⟩
          obtain ⟨a0, c0, a1, c1, a2, c2, a3, c3, a4, c4, gt, gr, hgm, hgr, hMb, hOD, hOT, hMp⟩ := hPre
          have hBw : Below w6.heap.size w6 wx := ⟨hb.os, hb.tape, hb.output, hb.size, hb.block⟩
          have hR7 := (hBw.block (z + 1) (by omega)).trans hR6
          have hB7 := hB6.trans (hBw.mono hB6.size)
          have hsx := hBw.size
          have hRk := rankMerges_any gm gr c0 c1 a0 a1 ws ms wx hw4 hm4 hwf (fun i x hx => (hRgt.size hx).2) hRgt (cell_of_block hMb 0) (cell_of_block hMb 1) (cell_of_block hMb 6) hOD.words.row.sp hOD.merges.row.sp hMp
          have HMb : Hid (wx.heap[gm]? = _) := hMb
          have HOD : Hid (OwnD wx _ a0 c0 a1 c1 a2 c2 a3 c3 a4 c4 ws ms A B C) := hOD
          have HOT : Hid (OwnT wx _ gt A B C) := hOT
          have HMp : Hid (MapI wx 143 pairV gr 0 (fun _ => none)) := hMp
          obtain ⟨⟨yr, rr⟩, hyr⟩ : ∃ q, q = firstBad (badM ws ms) ms.length := ⟨_, rfl⟩
          rw [← hyr] at hRk
          have HYR : Hid ((yr, rr) = firstBad (badM ws ms) ms.length) := hyr
          clear hyr hb hMb hOD hOT hMp hR6 hB6 hD6
          simp only [finV, Act.put, List.setIfInBounds_toArray, List.set_cons_succ, List.set_cons_zero, List.drop_succ_cons, List.drop_zero]
          go_wp2_with fail
          refine hRk.mono ?_
          rintro e w8 ⟨rfl, hBut, hMap⟩
          have hz1 : z + 1 < wx.heap.size := by omega
          have hne1 : z + 1 ≠ gr := HMp.out.ne hR7
          have hR8 := (hBut.2.2.2.2 (z + 1) hz1 hne1).trans hR7
          have hB8 : Below w.heap.size w w8 := hB7.trans (hBut.below (by rw [← HZ.out]; omega) (by rw [← HZ.out]; omega))
          have HCK : Hid (CK wx w8) := hBut.ck HMp.out
          have HMap : Hid (yr = 0 → MapI w8 143 pairV gr ms.length (rankF ms)) := hMap
          obtain ⟨yri, hyri⟩ : ∃ q : Int, q = (yr : Nat) := ⟨_, rfl⟩
          obtain ⟨rri, hrri⟩ : ∃ q : Int, q = (rr : Nat) := ⟨_, rfl⟩
          simp only []
          rw [← hyri, ← hrri]
          have f0 := fun j => unfrozen_of_block hR8 j
          have z0 := cell_of_block hR8 (i := 0)
          have z1 := cell_of_block hR8 (i := 1)
          have z2 := cell_of_block hR8 (i := 2)
          clear hRk hBut hMap hR7 hB7
          by_cases hr0 : yr = 0
          · obtain rfl : yri = 0 := by rw [hyri, hr0]; rfl
            have HE2 : Hid (E = (0, 0, 0)) := by rw [HCD.out, if_neg (by simpa using HY0.out), if_neg (by simpa using HW00.out), ← HYR.out]; exact if_neg (by simpa using hr0)
            have HM8 : Hid (ModelAt w8 (z + 1 + 1) gm ws ms A B C) := ⟨a0, c0, a1, c1, a2, c2, a3, c3, a4, c4, gt, gr, hgm, hgr, HCK.out _ _ _ _ HMb.out, HOD.out.ck HCK.out, HOT.out.ck HCK.out, HMap.out hr0⟩
            clear hyri hrri hr0 HYR HMap HE
            go_wp2_with fail
            have hfin := wr_set hR8 (u0 := .int .i64 0) (u1 := .int .i64 0) (u2 := .int .i64 0)
            have hBf := wr_below hB8 (g := z + 1) (u0 := .int .i64 0) (u1 := .int .i64 0) (u2 := .int .i64 0) (by rw [HZ.out]; omega)
            have hMf := ((HM8.out.away (b := z + 1) (o := 0) (by omega) (.int .i64 0)).away (b := z + 1) (o := 1) (by omega) (.int .i64 0)).away (b := z + 1) (o := 2) (by omega) (.int .i64 0)
            obtain ⟨Wf, hWf⟩ : ∃ Wf, Wf = (((w8.setCell ⟨z + 1, 0, none⟩ (.int .i64 0)).setCell ⟨z + 1, 1, none⟩ (.int .i64 0)).setCell ⟨z + 1, 2, none⟩ (.int .i64 0)) := ⟨_, rfl⟩
            rw [← hWf] at hfin hBf hMf ⊢
            have y0 := cell_of_block hfin (i := 0)
            have y1 := cell_of_block hfin (i := 1)
            have y2 := cell_of_block hfin (i := 2)
            exact bodyPost_ret (v := .tuple #[.pointer (some ⟨gm, 0, none⟩), .agg #[.int .i64 0, .int .i64 0, .int .i64 0]]) (by simp [results, Tryz.results27, go_sem, y0, y1, y2]) rfl ⟨some ⟨gm, 0, none⟩, by rw [HE2.out]; rfl, fun _ => ⟨gm, rfl, hMf.low (by rw [HZ.out]; omega)⟩, fun e => absurd (by rw [HE2.out]) e, hBf⟩
          · have hne : (yri == 0) = false := by rw [hyri]; simp; omega
            have HE2 : Hid (E = (yr, 5, rr)) := by rw [HCD.out, if_neg (by simpa using HY0.out), if_neg (by simpa using HW00.out), ← HYR.out]; exact if_pos hr0
            have HYRI : Hid (yri = (yr : Nat) ∧ rri = (rr : Nat)) := ⟨hyri, hrri⟩
            clear hyri hrri HYR HMap HE
            go_wp2_with fail
            have hfin := wr_set hR8 (u0 := .int .i64 yri) (u1 := .int .i64 5) (u2 := .int .i64 rri)
            have hBf := wr_below hB8 (g := z + 1) (u0 := .int .i64 yri) (u1 := .int .i64 5) (u2 := .int .i64 rri) (by rw [HZ.out]; omega)
            obtain ⟨Wf, hWf⟩ : ∃ Wf, Wf = (((w8.setCell ⟨z + 1, 0, none⟩ (.int .i64 yri)).setCell ⟨z + 1, 1, none⟩ (.int .i64 5)).setCell ⟨z + 1, 2, none⟩ (.int .i64 rri)) := ⟨_, rfl⟩
            rw [← hWf] at hfin hBf ⊢
            have y0 := cell_of_block hfin (i := 0)
            have y1 := cell_of_block hfin (i := 1)
            have y2 := cell_of_block hfin (i := 2)
            exact bodyPost_ret (v := .tuple #[.pointer none, .agg #[.int .i64 yri, .int .i64 5, .int .i64 rri]]) (by simp [results, Tryz.results27, go_sem, y0, y1, y2]) rfl ⟨none, by rw [HE2.out, HYRI.out.1, HYRI.out.2]; rfl, fun e => absurd (by rw [HE2.out] at e; exact e) hr0, fun _ => rfl, hBf⟩
      · have hne : (ywi == 0) = false := by rw [hywi]; simp; omega
        have HE2 : Hid (E = (yw, 4, rw_)) := by rw [HCD.out, if_neg (by simpa using HY0.out), ← HYW.out]; exact if_pos hw0
        have f0 := fun j => unfrozen_of_block hR6 j
        have z0 := cell_of_block hR6 (i := 0)
        have z1 := cell_of_block hR6 (i := 1)
        have z2 := cell_of_block hR6 (i := 2)
        clear hywi hrwi
        go_wp2_with fail
        have hfin := wr_set hR6 (u0 := .int .i64 ywi) (u1 := .int .i64 4) (u2 := .int .i64 rwi)
        have hBf := wr_below hB6 (g := z + 1) (u0 := .int .i64 ywi) (u1 := .int .i64 4) (u2 := .int .i64 rwi) (by rw [HZ.out]; omega)
        obtain ⟨Wf, hWf⟩ : ∃ Wf, Wf = (((w6.setCell ⟨z + 1, 0, none⟩ (.int .i64 ywi)).setCell ⟨z + 1, 1, none⟩ (.int .i64 4)).setCell ⟨z + 1, 2, none⟩ (.int .i64 rwi)) := ⟨_, rfl⟩
        rw [← hWf] at hfin hBf ⊢
        have y0 := cell_of_block hfin (i := 0)
        have y1 := cell_of_block hfin (i := 1)
        have y2 := cell_of_block hfin (i := 2)
        exact bodyPost_ret (v := .tuple #[.pointer none, .agg #[.int .i64 ywi, .int .i64 4, .int .i64 rwi]]) (by simp [results, Tryz.results27, go_sem, y0, y1, y2]) rfl ⟨none, by rw [HE2.out, HYWI.out.1, HYWI.out.2]; rfl, fun e => absurd (by rw [HE2.out] at e; exact e) hw0, fun _ => rfl, hBf⟩
    · have hne : (yai == 0) = false := by rw [hyai]; simp; omega
      have HE2 : Hid (E = (ya, la, ra)) := by rw [HCD.out, ← HYA.out]; exact if_pos ha0
      have x0 := cell_of_block hF (i := 0)
      have x1 := cell_of_block hF (i := 1)
      have x2 := cell_of_block hF (i := 2)
      have f0 := fun j => unfrozen_of_block hR5 j
      clear hyai hlai hrai hT hbg
      go_wp2_with fail
      obtain ⟨W5, hW5⟩ : ∃ W5, W5 = w4.alloc (.cells #[.int .i64 yai, .int .i64 lai, .int .i64 rai] 109) := ⟨_, rfl⟩
      rw [← hW5] at hF hD5 hR5 hB5 hs5 x0 x1 x2 f0 ⊢
      clear hW5
      refine wp_region_quiet_tail (C := fun w' => ∃ n, w' = W5.drewN n) 2 (by kernel_rfl) (by kernel_rfl) ⟨1, rfl⟩ ?_
      simp only [List.take_succ_cons, List.take_zero, List.drop_succ_cons, List.drop_zero]
      repeat (go_big_quiet_step (fail))
      refine wpQuiet_nil ?_
      intro _ hw'
      obtain ⟨nq, hw''⟩ := hw'
      subst hw''
      have hbd := below_drewN (Below.refl W5.heap.size W5) nq
      have hR6 := (hbd.block (z + 1) (by omega)).trans hR5
      have hB6 := hB5.trans (hbd.mono hB5.size)
      have f0 := fun j => unfrozen_of_block hR6 j
      have z0 := cell_of_block hR6 (i := 0)
      have z1 := cell_of_block hR6 (i := 1)
      have z2 := cell_of_block hR6 (i := 2)
      clear hbd x0 x1 x2 hF hD5 hR5 hB5
      go_wp2_with fail
      have hfin := wr_set hR6 (u0 := .int .i64 yai) (u1 := .int .i64 lai) (u2 := .int .i64 rai)
      have hBf := wr_below hB6 (g := z + 1) (u0 := .int .i64 yai) (u1 := .int .i64 lai) (u2 := .int .i64 rai) (by rw [HZ.out]; omega)
      obtain ⟨Wf, hWf⟩ : ∃ Wf, Wf = ((((W5.drewN nq).setCell ⟨z + 1, 0, none⟩ (.int .i64 yai)).setCell ⟨z + 1, 1, none⟩ (.int .i64 lai)).setCell ⟨z + 1, 2, none⟩ (.int .i64 rai)) := ⟨_, rfl⟩
      rw [← hWf] at hfin hBf ⊢
      have y0 := cell_of_block hfin (i := 0)
      have y1 := cell_of_block hfin (i := 1)
      have y2 := cell_of_block hfin (i := 2)
      exact bodyPost_ret (v := .tuple #[.pointer none, .agg #[.int .i64 yai, .int .i64 lai, .int .i64 rai]]) (by simp [results, Tryz.results27, go_sem, y0, y1, y2]) rfl ⟨none, by rw [HE2.out, HYAI.out.1, HYAI.out.2.1, HYAI.out.2.2]; rfl, fun e => absurd (by rw [HE2.out] at e; exact e) ha0, fun _ => rfl, hBf⟩
  · have hne : (yi == 0) = false := by rw [hyi]; simp; omega
    have HE2 : Hid (E = (y, li, ro)) := HN1.out h0
    have x0 := cell_of_block hF (i := 0)
    have x1 := cell_of_block hF (i := 1)
    have x2 := cell_of_block hF (i := 2)
    have f0 := fun j => unfrozen_of_block hR3 j
    clear hyi hlii hroi
    go_wp2_with fail
    obtain ⟨W3, hW3⟩ : ∃ W3, W3 = w1.alloc (.cells #[.int .i64 yi, .int .i64 lii, .int .i64 roi] 65) := ⟨_, rfl⟩
    rw [← hW3] at hF hD3 hR3 hB3 hs3 x0 x1 x2 f0 ⊢
    clear hW3
    refine wp_region_quiet_tail (C := fun w' => ∃ n, w' = W3.drewN n) 2 (by kernel_rfl) (by kernel_rfl) ⟨1, rfl⟩ ?_
    simp only [List.take_succ_cons, List.take_zero, List.drop_succ_cons, List.drop_zero]
    repeat (go_big_quiet_step (fail))
    refine wpQuiet_nil ?_
    intro _ hw'
    obtain ⟨nq, hw''⟩ := hw'
    subst hw''
    have hbd := below_drewN (Below.refl W3.heap.size W3) nq
    have hR4 := (hbd.block (z + 1) (by omega)).trans hR3
    have hB4 := hB3.trans (hbd.mono hB3.size)
    have f0 := fun j => unfrozen_of_block hR4 j
    have z0 := cell_of_block hR4 (i := 0)
    have z1 := cell_of_block hR4 (i := 1)
    have z2 := cell_of_block hR4 (i := 2)
    clear hbd x0 x1 x2 hF hD3 hR3 hB3
    go_wp2_with fail
    have hfin := wr_set hR4 (u0 := .int .i64 yi) (u1 := .int .i64 lii) (u2 := .int .i64 roi)
    have hBf := wr_below hB4 (g := z + 1) (u0 := .int .i64 yi) (u1 := .int .i64 lii) (u2 := .int .i64 roi) (by rw [HZ.out]; omega)
    obtain ⟨Wf, hWf⟩ : ∃ Wf, Wf = ((((W3.drewN nq).setCell ⟨z + 1, 0, none⟩ (.int .i64 yi)).setCell ⟨z + 1, 1, none⟩ (.int .i64 lii)).setCell ⟨z + 1, 2, none⟩ (.int .i64 roi)) := ⟨_, rfl⟩
    rw [← hWf] at hfin hBf ⊢
    have y0 := cell_of_block hfin (i := 0)
    have y1 := cell_of_block hfin (i := 1)
    have y2 := cell_of_block hfin (i := 2)
    exact bodyPost_ret (v := .tuple #[.pointer none, .agg #[.int .i64 yi, .int .i64 lii, .int .i64 roi]]) (by simp [results, Tryz.results27, go_sem, y0, y1, y2]) rfl ⟨none, by rw [HE2.out, HYI.out.1, HYI.out.2.1, HYI.out.2.2]; rfl, fun e => absurd (by rw [HE2.out] at e; exact e) h0, fun _ => rfl, hBf⟩
end Go.Proofs.YtplmmamebfpcjaaGreatDoor
end
section
/- The document's own Meet: its contract. -/
namespace Go.Proofs.YtplmmamebfpcjaaGreatDoor
open Go.RowKit Go.Sort
/-- The spans ahead of i meet none of b; span i meets none ahead of j. -/
def Apart (a b : List Sp) (i j : Nat) : Prop := ∀ (p : Nat) (x : Sp) (q : Nat) (y : Sp), a[p]? = some x → b[q]? = some y → (p < i ∨ p = i ∧ q < j) → ovB x y = false
theorem Apart.next {a b : List Sp} {i j : Nat} {x y : Sp} (h : Apart a b i j) (hx : a[i]? = some x) (hy : b[j]? = some y) (ho : ovB x y = false) : Apart a b i (j + 1) := by
  intro p u q v hu hv hpq
  by_cases e : p = i ∧ q = j
  · obtain ⟨rfl, rfl⟩ := e
    rw [hx] at hu
    rw [hy] at hv
    cases hu
    cases hv
    exact ho
  · exact h p u q v hu hv (by omega)
theorem Apart.row {a b : List Sp} {i j : Nat} (h : Apart a b i j) (hj : b.length ≤ j) : Apart a b (i + 1) 0 := by
  intro p u q v hu hv hpq
  have := (List.getElem?_eq_some_iff.1 hv).1
  exact h p u q v hu hv (by omega)
theorem Apart.some {a b : List Sp} {i j : Nat} {x y : Sp} (h : Apart a b i j) (hx : a[i]? = some x) (hy : b[j]? = some y) (ho : ovB x y = true) : meetV (meetA a b) = .tuple #[.int .i64 (i : Nat), .bool true] := by
  rw [meetA_some hx (fun p u hp hu => meets_false fun q v hv => h p u q v hu hv (.inl hp)) (meets_true.2 ⟨j, y, hy, ho⟩)]; rfl
theorem Apart.none {a b : List Sp} {j : Nat} (h : Apart a b a.length j) : meetV (meetA a b) = .tuple #[.int .i64 0, .bool false] := by
  rw [meetA_none (fun p u hu => meets_false fun q v hv => h p u q v hu hv (.inl (List.getElem?_eq_some_iff.1 hu).1))]; rfl
set_option maxHeartbeats 4000000 in
theorem refMeet_any (a b : Option Addr) (ca cb : Nat) (A B : List Sp) (w : World) (hla : A.length ≤ 9223372036854775807) (hlb : B.length ≤ 9223372036854775807) (hA : SPS w a A) (hB : SPS w b B) (hRa : Rgt A) (hRb : Rgt B) :
    Calls Tryz.prog 80 #[.slice a A.length ca, .slice b B.length cb] w fun e w' => e = .returned (meetV (meetA A B)) ∧ Below w.heap.size w w' := by
  obtain ⟨R, hR⟩ : ∃ R, R = meetV (meetA A B) := ⟨_, rfl⟩
  have HR : Hid (R = meetV (meetA A B)) := hR
  rw [← hR]
  clear hR
  obtain ⟨n, hn⟩ : ∃ n, n = A.length := ⟨_, rfl⟩
  have HN : Hid (n = A.length) := hn
  obtain ⟨m, hm⟩ : ∃ m, m = B.length := ⟨_, rfl⟩
  have HM : Hid (m = B.length) := hm
  rw [← hn] at hla ⊢
  rw [← hm] at hlb ⊢
  clear hn hm
  go_enter Tryz.func80, Tryz.ntmps80
  go_wp2
  go_loopw [6] (fun i wr => ∃ p : Nat, p ≤ n ∧ i = .int .i64 p ∧ Below w.heap.size w wr ∧ Apart A B p 0) (fun i _ => n - (intOf i).toNat)
  case atStart => exact ⟨0, Nat.zero_le _, rfl, Below.refl _ _, fun p x q y _ _ h => by omega⟩
  case round =>
    obtain ⟨p, hp, rfl, hbr, hP⟩ := hrel
    by_cases hlp : p < n
    · have dp : decide (p < n) = true := decide_eq_true hlp
      have hpl : p < A.length := by rw [← HN.out]; exact hlp
      rcases hA with h | ⟨ba, oa, rfl, hA⟩
      · subst h; simp at hpl
      obtain ⟨x, hx⟩ : ∃ x, A[p]? = some x := ⟨_, List.getElem?_eq_getElem hpl⟩
      obtain ⟨x0, x1⟩ := hA p x hx
      have HX : Hid (A[p]? = some x) := hx
      clear hA hx hpl
      go_wp2_with fail
      go_loopw [7] (fun j wi => ∃ q : Nat, q ≤ m ∧ j = .int .i64 q ∧ Below w.heap.size w wi ∧ Apart A B p q) (fun j _ => m - (intOf j).toNat)
      case atStart => exact ⟨0, Nat.zero_le _, rfl, hbr, hP⟩
      case round =>
        clear hbr hP
        obtain ⟨q, hq, rfl, hbr, hP⟩ := hrel
        by_cases hlq : q < m
        · have hql : q < B.length := by rw [← HM.out]; exact hlq
          rcases hB with h | ⟨bb, ob, rfl, hB⟩
          · subst h; simp at hql
          obtain ⟨y, hy⟩ : ∃ y, B[q]? = some y := ⟨_, List.getElem?_eq_getElem hql⟩
          obtain ⟨y0, y1⟩ := (hB q y hy).below hbr
          obtain ⟨x0, x1⟩ := SpAt.below ⟨x0, x1⟩ hbr
          have HY : Hid (B[q]? = some y) := hy
          obtain ⟨r1, r2, r3⟩ := hRa.row HX.out
          obtain ⟨s1, s2, s3⟩ := hRb.row hy
          clear hB hy hql
          by_cases ho : max x.lo y.lo ≤ min x.hi y.hi
          · have hE : Hid (R = .tuple #[.int .i64 (p : Nat), .bool true]) := by show R = _; rw [HR.out]; exact hP.some HX.out HY.out (by unfold ovB; exact decide_eq_true ho)
            by_cases m1 : x.lo < y.lo
            · have d1 : decide (x.lo < y.lo) = true := decide_eq_true m1
              by_cases m2 : y.hi < x.hi
              · have d2 : decide (y.hi < x.hi) = true := decide_eq_true m2
                have d3 : decide (y.lo ≤ y.hi) = true := decide_eq_true (by omega)
                have HRn : Hid (runeB y.lo = true) := s1
                clear m1 m2 ho r1 r2 r3 s1 s2 s3
                go_wp2_with fail
                refine (refRune_any y.lo _).mono ?_
                rintro e w1 ⟨rfl, he⟩
                obtain rfl := he.symm
                rw [HRn.out]
                go_wp2_with fail
                exact bodyPost_ret (v := .tuple #[.int .i64 (p : Nat), .bool true]) (by simp [results, Tryz.results80, go_sem]) rfl ⟨by rw [hE.out], hbr⟩
              · have d2 : decide (y.hi < x.hi) = false := decide_eq_false m2
                have d3 : decide (y.lo ≤ x.hi) = true := decide_eq_true (by omega)
                have HRn : Hid (runeB y.lo = true) := s1
                clear m1 m2 ho r1 r2 r3 s1 s2 s3
                go_wp2_with fail
                refine (refRune_any y.lo _).mono ?_
                rintro e w1 ⟨rfl, he⟩
                obtain rfl := he.symm
                rw [HRn.out]
                go_wp2_with fail
                exact bodyPost_ret (v := .tuple #[.int .i64 (p : Nat), .bool true]) (by simp [results, Tryz.results80, go_sem]) rfl ⟨by rw [hE.out], hbr⟩
            · have d1 : decide (x.lo < y.lo) = false := decide_eq_false m1
              by_cases m2 : y.hi < x.hi
              · have d2 : decide (y.hi < x.hi) = true := decide_eq_true m2
                have d3 : decide (x.lo ≤ y.hi) = true := decide_eq_true (by omega)
                have HRn : Hid (runeB x.lo = true) := r1
                clear m1 m2 ho r1 r2 r3 s1 s2 s3
                go_wp2_with fail
                refine (refRune_any x.lo _).mono ?_
                rintro e w1 ⟨rfl, he⟩
                obtain rfl := he.symm
                rw [HRn.out]
                go_wp2_with fail
                exact bodyPost_ret (v := .tuple #[.int .i64 (p : Nat), .bool true]) (by simp [results, Tryz.results80, go_sem]) rfl ⟨by rw [hE.out], hbr⟩
              · have d2 : decide (y.hi < x.hi) = false := decide_eq_false m2
                have d3 : decide (x.lo ≤ x.hi) = true := decide_eq_true (by omega)
                have HRn : Hid (runeB x.lo = true) := r1
                clear m1 m2 ho r1 r2 r3 s1 s2 s3
                go_wp2_with fail
                refine (refRune_any x.lo _).mono ?_
                rintro e w1 ⟨rfl, he⟩
                obtain rfl := he.symm
                rw [HRn.out]
                go_wp2_with fail
                exact bodyPost_ret (v := .tuple #[.int .i64 (p : Nat), .bool true]) (by simp [results, Tryz.results80, go_sem]) rfl ⟨by rw [hE.out], hbr⟩
          · have hP' := hP.next HX.out HY.out (by unfold ovB; exact decide_eq_false ho)
            by_cases m1 : x.lo < y.lo
            · have d1 : decide (x.lo < y.lo) = true := decide_eq_true m1
              by_cases m2 : y.hi < x.hi
              · have d2 : decide (y.hi < x.hi) = true := decide_eq_true m2
                have d3 : decide (y.lo ≤ y.hi) = false := decide_eq_false (by omega)
                clear m1 m2 ho r1 r2 r3 s1 s2 s3
                go_wp2_with fail
                exact ⟨⟨q + 1, by omega, by go_num, hbr, hP'⟩, by simp only [intOf]; omega⟩
              · have d2 : decide (y.hi < x.hi) = false := decide_eq_false m2
                have d3 : decide (y.lo ≤ x.hi) = false := decide_eq_false (by omega)
                clear m1 m2 ho r1 r2 r3 s1 s2 s3
                go_wp2_with fail
                exact ⟨⟨q + 1, by omega, by go_num, hbr, hP'⟩, by simp only [intOf]; omega⟩
            · have d1 : decide (x.lo < y.lo) = false := decide_eq_false m1
              by_cases m2 : y.hi < x.hi
              · have d2 : decide (y.hi < x.hi) = true := decide_eq_true m2
                have d3 : decide (x.lo ≤ y.hi) = false := decide_eq_false (by omega)
                clear m1 m2 ho r1 r2 r3 s1 s2 s3
                go_wp2_with fail
                exact ⟨⟨q + 1, by omega, by go_num, hbr, hP'⟩, by simp only [intOf]; omega⟩
              · have d2 : decide (y.hi < x.hi) = false := decide_eq_false m2
                have d3 : decide (x.lo ≤ x.hi) = false := decide_eq_false (by omega)
                clear m1 m2 ho r1 r2 r3 s1 s2 s3
                go_wp2_with fail
                exact ⟨⟨q + 1, by omega, by go_num, hbr, hP'⟩, by simp only [intOf]; omega⟩
        · have hqm : q = m := by omega
          subst hqm
          have hP' := hP.row (by rw [HM.out]; exact Nat.le_refl _)
          go_wp2_with fail
          exact ⟨⟨p + 1, by omega, by go_num, hbr, hP'⟩, by simp only [intOf]; omega⟩
    · have hpn : p = n := by omega
      subst hpn
      have hE : Hid (R = .tuple #[.int .i64 0, .bool false]) := by show R = _; rw [HR.out]; exact Apart.none (by rw [← HN.out]; exact hP)
      go_wp2_with fail
      exact bodyPost_ret (v := .tuple #[.int .i64 0, .bool false]) (by simp [results, Tryz.results80, go_sem]) rfl ⟨by rw [hE.out], hbr⟩
end Go.Proofs.YtplmmamebfpcjaaGreatDoor
end
