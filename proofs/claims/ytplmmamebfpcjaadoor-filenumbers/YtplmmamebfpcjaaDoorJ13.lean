import Derived.Test.YtplmmamebfpcjaaDoorJ11
import Derived.Test.YtplmmamebfpcjaaDoorJ12
import Derived.Test.YtplmmamebfpcjaaDoorJ6
import Derived.Deep.AppendSrc
import Derived.Deep.QuietTactic
import Derived.BigQuiet
import Derived.Deep.RegionLaw
import Derived.Deep.DeepCutAuto
import Derived.Deep.LoopGhost
import Derived.WalkSpells
import Derived.WalkLawsBesides
section
/- file.Save: its contract. -/
namespace Go.Proofs.YtplmmamebfpcjaaDoor
open Go.RowKit Go.Sort Go.Joins
set_option linter.unusedVariables false
set_option maxRecDepth 100000
theorem WPR.kb {w w' : World} {lo c : Nat} {a : Option Addr} {l : List ByteArray} (h : WPR w lo a c l) (hk : KB w w') : WPR w' lo a c l := by
  rcases h with h | ⟨g, cur, h1, h2, h3, h4⟩
  · exact .inl h
  · exact .inr ⟨g, cur, h1, h2, hk _ (by decide) _ _ _ h3, h4⟩
theorem MPR.kb {w w' : World} {lo c : Nat} {a : Option Addr} {l : List Mg} (h : MPR w lo a c l) (hk : KB w w') : MPR w' lo a c l := by
  rcases h with h | ⟨g, cur, h1, h2, h3, h4⟩
  · exact .inl h
  · exact .inr ⟨g, cur, h1, h2, hk _ (by decide) _ _ _ h3, h4⟩
theorem SPRc.kb {w w' : World} {lo c : Nat} {a : Option Addr} {l : List Sp} (h : SPRc w lo a c l) (hk : KB w w') : SPRc w' lo a c l := by
  rcases h with h | ⟨g, cur, h1, h2, h3, h4⟩
  · exact .inl h
  · exact .inr ⟨g, cur, h1, h2, hk _ (by decide) _ _ _ h3, h4⟩
/-- Lists of data in memory, kept while bytes are written. -/
def Lists (w : World) (a0 a1 a2 a3 a4 : Option Addr) (c0 c1 c2 c3 c4 lo : Nat) (ws : List ByteArray) (ms : List Mg) (A B C : List Sp) : Prop := WPR w lo a0 c0 ws ∧ MPR w lo a1 c1 ms ∧ SPRc w lo a2 c2 A ∧ SPRc w lo a3 c3 B ∧ SPRc w lo a4 c4 C
theorem Lists.kb {w w' : World} {a0 a1 a2 a3 a4 : Option Addr} {c0 c1 c2 c3 c4 lo : Nat} {ws : List ByteArray} {ms : List Mg} {A B C : List Sp} (h : Lists w a0 a1 a2 a3 a4 c0 c1 c2 c3 c4 lo ws ms A B C) (hk : KB w w') : Lists w' a0 a1 a2 a3 a4 c0 c1 c2 c3 c4 lo ws ms A B C :=
  ⟨h.1.kb hk, h.2.1.kb hk, h.2.2.1.kb hk, h.2.2.2.1.kb hk, h.2.2.2.2.kb hk⟩
theorem DBox.kb {w w' : World} {z : Nat} {v0 v1 v2 v3 v4 : Value} (h : DBox w z v0 v1 v2 v3 v4) (hk : KB w w') : DBox w' z v0 v1 v2 v3 v4 := hk _ (by decide) _ _ _ h
set_option maxHeartbeats 400000 in
theorem save_nil (w : World) : Calls Tryd.prog 5 #[.pointer none] w fun e w' => e = .returned (.slice none 0 0) ∧ w' = w := by
  go_enter Tryd.func5, Tryd.ntmps5
  go_wp2_with fail
  go_ret
  exact ⟨rfl, rfl⟩
theorem nums_new (w : World) (ns : List Nat) : NumsAt (w.alloc (.cells (cellsI ns).toArray 3)) w.heap.size ns := heap_alloc_new _ _
set_option maxHeartbeats 4000000 in
theorem save_any (g lo : Nat) (ws : List ByteArray) (ms : List Mg) (A B C : List Sp) (w : World) (hk : MOk ws ms A B C) (h : ModelAt w lo g ws ms A B C) :
    Calls Tryd.prog 5 #[.pointer (some ⟨g, 0, none⟩)] w (Oc.NewBytes w (fileF ws ms A B C)) := by
  have HD0 := data_any g lo ws ms A B C w hk h
  have hnm : Hid (ws.length = ms.length) := hk.nm
  have hm4 := hk.m4
  have hw4 : ws.length ≤ 4096 := by have := hk.nm; omega
  have hla := hk.la
  have hlb := hk.lb
  have hlc := hk.lc
  have HMB : Hid (Mb ms) := hk.mb
  have HSB : Hid (Sb A ∧ Sb B ∧ Sb C) := hk.sb
  have HWB : Hid (∀ (i : Nat) x, ws[i]? = some x → x.size ≤ 256) := hk.wb
  obtain ⟨nw, hnw⟩ : ∃ nw, nw = ws.length := ⟨_, rfl⟩
  obtain ⟨nm, hnmm⟩ : ∃ nm, nm = ms.length := ⟨_, rfl⟩
  rw [← hnw, ← hnmm] at HD0
  have HNW : Hid (nw = ws.length) := hnw
  have HNM : Hid (nm = ms.length) := hnmm
  have hnw4 : nw ≤ 4096 := by omega
  have hnm4 : nm ≤ 4096 := by omega
  clear hk h hnw hnmm hw4 hm4
  go_enter Tryd.func5, Tryd.ntmps5
  go_wp2_with fail
  refine HD0.mono ?_
  rintro e w1 ⟨a0, c0, a1, c1, a2, c2, a3, c3, a4, c4, rfl, hO, hb1⟩
  have hDn := DBox.new w1 (.slice a0 nw c0) (.slice a1 nm c1) (.slice a2 A.length c2) (.slice a3 B.length c3) (.slice a4 C.length c4)
  obtain ⟨s3, s4, q1, q2, o2, u2, o3, u3, o4⟩ := hO.spans
  have hL1 : Lists w1 a0 a1 a2 a3 a4 c0 c1 c2 c3 c4 0 ws ms A B C := ⟨hO.words.row.low (Nat.zero_le _), hO.merges.row.low (Nat.zero_le _), o2.row.low (Nat.zero_le _), o3.row.low (Nat.zero_le _), o4.row.low (Nat.zero_le _)⟩
  have hb2 := box_below w1 (.cells #[.slice a0 nw c0, .slice a1 nm c1, .slice a2 A.length c2, .slice a3 B.length c3, .slice a4 C.length c4] 45)
  obtain ⟨Y, hY⟩ : ∃ Y, Y = w1.alloc (.cells #[.slice a0 nw c0, .slice a1 nm c1, .slice a2 A.length c2, .slice a3 B.length c3, .slice a4 C.length c4] 45) := ⟨_, rfl⟩
  have hYs : Y.heap.size = w1.heap.size + 1 := by rw [hY]; simp
  have hcv := run_convert_bytes_const_at (P := Tryd.prog) Y 22 5 #[.int .u8 66, .int .u8 80, .int .u8 69, .int .u8 49] 4 4 (w1.heap.size + 1) hYs.symm Tryd.underlying22 Tryd.underlying5
  rw [hY] at hcv
  rw [← hY] at hb2 hDn
  have hd0 : (w1.alloc (.cells #[.slice a0 nw c0, .slice a1 nm c1, .slice a2 A.length c2, .slice a3 B.length c3, .slice a4 C.length c4] 45)).cell? ⟨w1.heap.size, 0, none⟩ = some (.slice a0 nw c0) := by rw [← hY]; exact hDn.c0
  clear HD0 hO q1 q2 o2 u2 o3 u3 o4
  go_wp2_with fail
  rw [← hY]
  have hb3 := (Below.refl Y.heap.size Y).alloc (Nat.le_refl _) (.cells #[.int .u8 66, .int .u8 80, .int .u8 69, .int .u8 49] 5 (4, 5))
  have hbs3 : Oc.BS (Y.alloc (.cells #[.int .u8 66, .int .u8 80, .int .u8 69, .int .u8 49] 5 (4, 5))) (some ⟨w1.heap.size + 1, 0, none⟩) magicL := by
    rw [← hYs]; exact Oc.BS.marked Y magicL 5 (4, 5)
  obtain ⟨Y3, hY3⟩ : ∃ Y3, Y3 = Y.alloc (.cells #[.int .u8 66, .int .u8 80, .int .u8 69, .int .u8 49] 5 (4, 5)) := ⟨_, rfl⟩
  have hY3s : Y3.heap.size = w1.heap.size + 2 := by rw [hY3]; simp [hYs]
  rw [← hY3] at hb3 hbs3
  have hb4 := box_below Y3 (.cells #[.int .i64 (nw : Nat)] 3)
  have hns4 : NumsAt (Y3.alloc (.cells #[.int .i64 (nw : Nat)] 3)) (w1.heap.size + 2) [nw] := by rw [← hY3s]; exact nums_new Y3 [nw]
  have HY3 : Hid (Y3 = Y.alloc (.cells #[.int .u8 66, .int .u8 80, .int .u8 69, .int .u8 49] 5 (4, 5))) := hY3
  have HLF := laid_full (w1.heap.size + 2) 1 nw ⟨w1.heap.size + 1, 0, none⟩ magicL _ (hbs3.below hb4) hns4 (by omega) (by decide)
  rw [← hY3]
  clear hbs3 hns4 hcv hd0 hY3 hY
  refine HLF.mono ?_
  rintro e w4 ⟨v4, rfl, ho4, hb5⟩
  have B4 : Below w.heap.size w w4 := (((hb1.trans (hb2.mono hb1.size)).trans (hb3.mono (by have := hb1.size; omega))).trans (hb4.mono (by have := hb1.size; omega))).trans (hb5.mono (by have := hb1.size; have := hb4.size; omega))
  have hD4 := (((hDn.kb (KB.of_below hb3)).kb (KB.of_below hb4)).kb (KB.of_below hb5))
  have hL4 := ((((hL1.kb (KB.of_below hb2)).kb (KB.of_below hb3)).kb (KB.of_below hb4)).kb (KB.of_below hb5))
  have hz4 : w1.heap.size ≤ w4.heap.size := by have := hb4.size; have := hb5.size; omega
  have ho4' := OwnB.low (B := w1.heap.size) ho4 (by have := hb4.size; omega)
  have hzw : w.heap.size ≤ w1.heap.size := hb1.size
  obtain ⟨z, hz⟩ : ∃ z, z = w1.heap.size := ⟨_, rfl⟩
  rw [← hz] at hD4 ho4' hz4 hzw ⊢
  have HO4 : Hid (Oc.OwnS w4 z v4 (magicL ++ Oc.be4 nw)) := ho4'
  have HD4 : Hid (DBox w4 z (.slice a0 nw c0) (.slice a1 nm c1) (.slice a2 A.length c2) (.slice a3 B.length c3) (.slice a4 C.length c4)) := hD4
  have HL4 : Hid (Lists w4 a0 a1 a2 a3 a4 c0 c1 c2 c3 c4 0 ws ms A B C) := hL4
  clear hb1 hb2 hb3 hb4 hb5 hL1 hDn ho4 ho4' hL4 HLF hYs hY3s HY3 hz
  have e0 := hD4.c0
  clear hD4
  go_wp2_with fail
  have hH0 : (magicL ++ Oc.be4 nw).length = 8 := rfl
  go_loopw [4, 27] (fun u i wr => ∃ k : Nat, k ≤ nw ∧ i = .int .i64 (k : Nat) ∧ Oc.OwnS wr z u (magicL ++ Oc.be4 nw ++ wordsF (ws.take k)) ∧ Below w.heap.size w wr ∧ KB w4 wr ∧ z ≤ wr.heap.size) (fun _ i _ => nw - (intOf i).toNat)
  case atStart => exact ⟨0, Nat.zero_le _, rfl, by rw [List.take_zero]; simpa [wordsF] using HO4.out, B4, KB.refl _, hz4⟩
  case round =>
    obtain ⟨k, hk, rfl, hO, hB, hK, hzr⟩ := hrel
    by_cases hlt : k < nw
    · have hkn : k < ws.length := by rw [← HNW.out]; exact hlt
      obtain ⟨b, off, rfl, hc⟩ := ((HL4.out.kb hK).1).sp.at_ (List.getElem?_eq_getElem hkn)
      have hxs := HWB.out k _ (List.getElem?_eq_getElem hkn)
      obtain ⟨x, hx⟩ : ∃ x, x = ws[k] := ⟨_, rfl⟩
      rw [← hx] at hc hxs
      have HNK : Hid (ws.take (k + 1) = ws.take k ++ [x]) := by rw [hx, List.take_succ_eq_append_getElem hkn]; rfl
      have hP := Oc.puttext_any none 0 [] x wr (by simp; omega) (by simp) (.inl rfl)
      rw [List.nil_append] at hP
      have hwl := wordsF_len (ws.take k) (fun i y hy => HWB.out i y (by rw [List.getElem?_take] at hy; split at hy <;> simp_all))
      have hwl2 : (wordsF (ws.take k)).length ≤ 4096 * 260 := by rw [List.length_take] at hwl; omega
      have HOK : Hid (Oc.OwnS wr z u4 (magicL ++ Oc.be4 nw ++ wordsF (ws.take k))) := hO
      clear hx hO hwl
      go_wp2_with fail
      refine hP.mono ?_
      rintro e w5 ⟨v1, rfl, ho1, hb1⟩
      have hxl : (Oc.be4 x.size ++ x.data.toList).length = 4 + x.size := by rw [List.length_append, show x.data.toList.length = x.size from Array.length_toList]; rfl
      obtain ⟨g1, cc1, rfl, q1, q2, q3, q4, hbs1⟩ := ho1.form (by rw [hxl]; omega)
      obtain ⟨v2, w6, hr2, ho2, hb2, hk2⟩ := app_bytes w5 z u4 _ (Oc.be4 x.size ++ x.data.toList) ⟨g1, 0, none⟩ cc1 (HOK.out.below hb1 (Nat.le_refl _)) hbs1 (Nat.le_trans hzr hb1.size) (by rw [List.length_append, hxl, hH0]; omega)
      have HO2 : Hid (Oc.OwnS w6 z v2 (magicL ++ Oc.be4 nw ++ wordsF (ws.take (k + 1)))) := by rw [HNK.out, wordsF_snoc, ← List.append_assoc]; exact ho2
      have HB2 : Hid (Below w.heap.size w w6) := (hB.trans (hb1.mono hB.size)).trans (hb2.mono hzw)
      have HK2 : Hid (KB w4 w6) := (hK.trans (KB.of_below hb1)).trans hk2
      have hz6 : z ≤ w6.heap.size := Nat.le_trans hzr (Nat.le_trans hb1.size hb2.size)
      rw [hxl] at hr2
      rw [hxl]
      clear hP ho1 hbs1 ho2 hb2 hk2 hB hK hb1 hc hxl
      go_wp2_with (at_builtin; refine wpList_append_run rfl (.tmp 31) (.tmp 33) 22 22 rfl _ _ rfl rfl _ w6 hr2 ?_; clear hr2)
      go_roundw
      case rel => exact ⟨k + 1, by omega, by go_num, HO2.out, HB2.out, HK2.out, hz6⟩
      case measure => simp only [intOf]; omega
    · have hkm : ws.take k = ws := List.take_of_length_le (by rw [← HNW.out]; omega)
      rw [hkm] at hO
      have hwl := wordsF_len ws HWB.out
      have hwl2 : (wordsF ws).length ≤ 4096 * 260 := by rw [← HNW.out] at hwl; omega
      have HO5 : Hid (Oc.OwnS wr z u4 (magicL ++ Oc.be4 nw ++ wordsF ws)) := hO
      have HD5 := HD4.out.kb hK
      have HL5 : Hid (Lists wr a0 a1 a2 a3 a4 c0 c1 c2 c3 c4 0 ws ms A B C) := HL4.out.kb hK
      have e1 := HD5.c1
      have HDB5 : Hid (DBox wr z (.slice a0 nw c0) (.slice a1 nm c1) (.slice a2 A.length c2) (.slice a3 B.length c3) (.slice a4 C.length c4)) := HD5
      clear hO hkm HO4 HD4 HL4 HD5 hK hwl e0
      obtain ⟨W5, hW5⟩ : ∃ W, W = wr := ⟨_, rfl⟩
      rw [← hW5] at HO5 HL5 e1 HDB5 hB hzr ⊢
      clear hW5
      go_wp2_with fail
      have hl1 : (wordsF ws).length ≤ 1064960 := by omega
      obtain ⟨H1, hH1⟩ : ∃ H1, H1 = magicL ++ Oc.be4 nw ++ wordsF ws := ⟨_, rfl⟩
      have hH1l : H1.length ≤ 1064968 := by rw [hH1, List.length_append, hH0]; omega
      rw [← hH1] at HO5
      have HH1 : Hid (H1 = magicL ++ Oc.be4 nw ++ wordsF ws) := hH1
      clear hH1 hl1 hwl2 e1 hH0
      go_loopw [4, 39] (fun u i wr => ∃ k : Nat, k ≤ nm ∧ i = .int .i64 (k : Nat) ∧ Oc.OwnS wr z u (H1 ++ mgsF (ms.take k)) ∧ Below w.heap.size w wr ∧ KB W5 wr ∧ z ≤ wr.heap.size) (fun _ i _ => nm - (intOf i).toNat)
      case atStart => exact ⟨0, Nat.zero_le _, rfl, by rw [List.take_zero]; simpa [mgsF] using HO5.out, hB, KB.refl _, hzr⟩
      case round =>
        clear hB hzr
        obtain ⟨k, hk, rfl, hO, hB, hK, hzr⟩ := hrel
        by_cases hlt : k < nm
        · have hkn : k < ms.length := by rw [← HNM.out]; exact hlt
          obtain ⟨b, off, rfl, hc⟩ := ((HL5.out.kb hK).2.1).sp.at_ (List.getElem?_eq_getElem hkn)
          obtain ⟨⟨m1, m2⟩, ⟨m3, m4⟩, m5, m6⟩ := HMB.out k _ (List.getElem?_eq_getElem hkn)
          obtain ⟨x, hx⟩ : ∃ x, x = ms[k] := ⟨_, rfl⟩
          rw [← hx] at hc m1 m2 m3 m4 m5 m6
          have HNK : Hid (ms.take (k + 1) = ms.take k ++ [x]) := by rw [hx, List.take_succ_eq_append_getElem hkn]; rfl
          obtain ⟨d0, d1, d2⟩ := hc
          obtain ⟨y1, hy1⟩ : ∃ y1 : Nat, x.l = y1 := ⟨x.l.toNat, by omega⟩
          obtain ⟨y2, hy2⟩ : ∃ y2 : Nat, x.r = y2 := ⟨x.r.toNat, by omega⟩
          obtain ⟨y3, hy3⟩ : ∃ y3 : Nat, x.i = y3 := ⟨x.i.toNat, by omega⟩
          rw [hy1] at d0
          rw [hy2] at d1
          rw [hy3] at d2
          have HMG : Hid (mgF x = flat4 [y1, y2, y3]) := by
            unfold mgF
            rw [hy1, hy2, hy3]
            rfl
          have hb1 := box_below wr (.cells #[.int .i64 (y1 : Nat), .int .i64 (y2 : Nat), .int .i64 (y3 : Nat)] 50)
          obtain ⟨W6, hW6⟩ : ∃ W6, W6 = wr.alloc (.cells #[.int .i64 (y1 : Nat), .int .i64 (y2 : Nat), .int .i64 (y3 : Nat)] 50) := ⟨_, rfl⟩
          have hW6s : W6.heap.size = wr.heap.size + 1 := by rw [hW6]; simp
          rw [← hW6] at hb1
          have hb2 := box_below W6 (.cells #[.int .i64 (y1 : Nat), .int .i64 (y2 : Nat), .int .i64 (y3 : Nat)] 3)
          have hn2 : NumsAt (W6.alloc (.cells #[.int .i64 (y1 : Nat), .int .i64 (y2 : Nat), .int .i64 (y3 : Nat)] 3)) (wr.heap.size + 1) [y1, y2, y3] := by rw [← hW6s]; exact nums_new W6 [y1, y2, y3]
          have hml := mgsF_len (ms.take k)
          have hml2 : (mgsF (ms.take k)).length ≤ 4096 * 12 := by rw [hml, List.length_take]; omega
          have hO6 := (hO.below hb1 (Nat.le_refl _)).below hb2 (Nat.le_refl _)
          have HLD := laid_any z (wr.heap.size + 1) 3 u4 _ [y1, y2, y3] _ hO6 hn2 (by simp; omega) (by have := hb1.size; have := hb2.size; omega) (by rw [List.length_append]; simp; omega)
          have HB1 : Hid (Below w.heap.size w (W6.alloc (.cells #[.int .i64 (y1 : Nat), .int .i64 (y2 : Nat), .int .i64 (y3 : Nat)] 3))) := (hB.trans (hb1.mono hB.size)).trans (hb2.mono (Nat.le_trans hB.size hb1.size))
          have HK1 : Hid (KB W5 (W6.alloc (.cells #[.int .i64 (y1 : Nat), .int .i64 (y2 : Nat), .int .i64 (y3 : Nat)] 3))) := (hK.trans (KB.of_below hb1)).trans (KB.of_below hb2)
          have hz6 : z ≤ (W6.alloc (.cells #[.int .i64 (y1 : Nat), .int .i64 (y2 : Nat), .int .i64 (y3 : Nat)] 3)).heap.size := by have := hb1.size; have := hb2.size; omega
          have HW6 : Hid (W6 = wr.alloc (.cells #[.int .i64 (y1 : Nat), .int .i64 (y2 : Nat), .int .i64 (y3 : Nat)] 50)) := hW6
          have t1 := m2
          have t3 := m4
          have t5 := m6
          rw [hy1] at t1
          rw [hy2] at t3
          rw [hy3] at t5
          clear hx hO hy1 hy2 hy3 hW6 hb1 hb2 hn2 hml hO6 hB hK m1 m2 m3 m4 m5 m6
          go_wp2_with fail
          rw [← HW6.out]
          refine HLD.mono ?_
          rintro e w7 ⟨v7, rfl, ho7, hb7, hk7⟩
          have HO7 : Hid (Oc.OwnS w7 z v7 (H1 ++ mgsF (ms.take (k + 1)))) := by rw [HNK.out, mgsF_snoc, HMG.out, ← List.append_assoc]; exact ho7
          have HB7 : Hid (Below w.heap.size w w7) := HB1.out.trans (hb7.mono hzw)
          have HK7 : Hid (KB W5 w7) := HK1.out.trans hk7
          have hz7 : z ≤ w7.heap.size := Nat.le_trans hz6 hb7.size
          clear HLD ho7 hb7 hk7 hz6 hW6s
          go_wp2_with fail
          go_roundw
          case rel => exact ⟨k + 1, by omega, by go_num, HO7.out, HB7.out, HK7.out, hz7⟩
          case measure => simp only [intOf]; omega
        · have hkm : ms.take k = ms := List.take_of_length_le (by rw [← HNM.out]; omega)
          rw [hkm] at hO
          have hml2 : (mgsF ms).length ≤ 49152 := by rw [mgsF_len, ← HNM.out]; omega
          obtain ⟨H2, hH2⟩ : ∃ H2, H2 = H1 ++ mgsF ms := ⟨_, rfl⟩
          have hH2l : H2.length ≤ 1114120 := by rw [hH2, List.length_append]; omega
          rw [← hH2] at hO
          have HH2 : Hid (H2 = H1 ++ mgsF ms) := hH2
          have HD6 := HDB5.out.kb hK
          have HL6 := HL5.out.kb hK
          have e2 := HD6.c2
          have e3 := HD6.c3
          have e4 := HD6.c4
          have hb1 := box_below wr (.cells #[.slice a2 A.length c2, .slice a3 B.length c3, .slice a4 C.length c4] 41)
          have hZ := Blk.new wr (.cells #[.slice a2 A.length c2, .slice a3 B.length c3, .slice a4 C.length c4] 41)
          obtain ⟨W7, hW7⟩ : ∃ W7, W7 = wr.alloc (.cells #[.slice a2 A.length c2, .slice a3 B.length c3, .slice a4 C.length c4] 41) := ⟨_, rfl⟩
          obtain ⟨gb, hgb⟩ : ∃ gb, gb = wr.heap.size := ⟨_, rfl⟩
          rw [← hW7] at hb1 hZ
          rw [← hgb] at hZ
          have HO7 : Hid (Oc.OwnS W7 z u4 H2) := hO.below hb1 (Nat.le_refl _)
          have HL7 : Hid (Lists W7 a0 a1 a2 a3 a4 c0 c1 c2 c3 c4 0 ws ms A B C) := HL6.kb (KB.of_below hb1)
          have HB7 : Hid (Below w.heap.size w W7) := hB.trans (hb1.mono hB.size)
          have hz7 : z ≤ W7.heap.size := Nat.le_trans hzr hb1.size
          have HZ7 : Hid (Blk W7 gb (.cells #[.slice a2 A.length c2, .slice a3 B.length c3, .slice a4 C.length c4] 41)) := hZ
          have HW7 : Hid (W7 = wr.alloc (.cells #[.slice a2 A.length c2, .slice a3 B.length c3, .slice a4 C.length c4] 41)) := hW7
          have HGB : Hid (gb = wr.heap.size) := hgb
          clear hO hkm hH2 HO5 HDB5 HL5 HD6 HL6 hb1 hZ hW7 hgb hB hK hml2
          go_wp2_with fail
          rw [← HW7.out, ← HGB.out]
          clear e2 e3 e4
          go_loopw [4, 61] (fun u i wr => ∃ k : Nat, k ≤ 3 ∧ i = .int .i64 (k : Nat) ∧ Oc.OwnS wr z u (H2 ++ spF3 A B C k) ∧ Below w.heap.size w wr ∧ KB W7 wr ∧ z ≤ wr.heap.size) (fun _ i _ => 3 - (intOf i).toNat)
          case atStart => exact ⟨0, by omega, rfl, by simpa [spF3] using HO7.out, HB7.out, KB.refl _, hz7⟩
          case round =>
            obtain ⟨k, hk, rfl, hO, hB, hK, hzr⟩ := hrel
            by_cases hlt : k < 3
            · have hsel : ∃ x c L, (∀ w', Blk w' gb (.cells #[.slice a2 A.length c2, .slice a3 B.length c3, .slice a4 C.length c4] 41) → w'.cell? ⟨gb, k, none⟩ = some (.slice x L.length c)) ∧ spF3 A B C (k + 1) = spF3 A B C k ++ spansF L ∧ Sb L ∧ L.length ≤ 512 ∧ (∀ w', KB W7 w' → SPS w' x L) ∧ (spF3 A B C k).length ≤ 2 * 4100 := by
                have la := spansF_len A
                have lb := spansF_len B
                rcases (show k = 0 ∨ k = 1 ∨ k = 2 by omega) with rfl | rfl | rfl
                · exact ⟨a2, c2, A, fun w' h => h.cell 0, by simp [spF3], HSB.out.1, hla, fun w' h => ((HL7.out.kb h).2.2.1).sp, by simp [spF3]⟩
                · exact ⟨a3, c3, B, fun w' h => h.cell 1, by simp [spF3], HSB.out.2.1, hlb, fun w' h => ((HL7.out.kb h).2.2.2.1).sp, by simp [spF3]; omega⟩
                · exact ⟨a4, c4, C, fun w' h => h.cell 2, by simp [spF3], HSB.out.2.2, hlc, fun w' h => ((HL7.out.kb h).2.2.2.2).sp, by simp [spF3]; omega⟩
              obtain ⟨x, cx, L, sel1, sel2, sel3, sel4, sel5, sel6⟩ := hsel
              obtain ⟨nl, hnl⟩ : ∃ nl, nl = L.length := ⟨_, rfl⟩
              have ck := sel1 wr (hK _ (by decide) _ _ _ HZ7.out)
              rw [← hnl] at ck sel4
              have HNL : Hid (nl = L.length) := hnl
              have HS2 : Hid (spF3 A B C (k + 1) = spF3 A B C k ++ spansF L) := sel2
              have HS3 : Hid (Sb L) := sel3
              have HS5 : Hid (∀ w', KB W7 w' → SPS w' x L) := sel5
              have hb1 := box_below wr (.cells #[.int .i64 (nl : Nat)] 3)
              have hn1 : NumsAt (wr.alloc (.cells #[.int .i64 (nl : Nat)] 3)) wr.heap.size [nl] := nums_new wr [nl]
              have HLD := laid_any z wr.heap.size 1 u4 _ [nl] _ (hO.below hb1 (Nat.le_refl _)) hn1 (by simp; omega) (Nat.le_trans hzr hb1.size) (by rw [List.length_append]; simp; omega)
              have HB1 : Hid (Below w.heap.size w (wr.alloc (.cells #[.int .i64 (nl : Nat)] 3))) := hB.trans (hb1.mono hB.size)
              have HK1 : Hid (KB W7 (wr.alloc (.cells #[.int .i64 (nl : Nat)] 3))) := hK.trans (KB.of_below hb1)
              have hz1 := Nat.le_trans hzr hb1.size
              clear hnl sel1 sel2 sel3 sel5 hn1 hb1 hO hB hK
              go_wp2_with fail
              refine HLD.mono ?_
              rintro e w8 ⟨v8, rfl, ho8, hb8, hk8⟩
              have hz8 : z ≤ w8.heap.size := Nat.le_trans hz1 hb8.size
              have HB8 : Hid (Below w.heap.size w w8) := HB1.out.trans (hb8.mono hzw)
              have HK8 : Hid (KB W7 w8) := HK1.out.trans hk8
              obtain ⟨H3, hH3⟩ : ∃ H3, H3 = H2 ++ spF3 A B C k ++ flat4 [nl] := ⟨_, rfl⟩
              have hH3l : H3.length ≤ 1122324 := by rw [hH3, List.length_append, List.length_append, flat4_length]; simp; omega
              rw [← hH3] at ho8
              have HO8 : Hid (Oc.OwnS w8 z v8 H3) := ho8
              have HH3 : Hid (H3 = H2 ++ spF3 A B C k ++ flat4 [nl]) := hH3
              clear HLD ho8 hb8 hk8 hz1 hH3 sel6 ck
              go_wp2_with fail
              go_loopw [4, 72] (fun u i wr => ∃ j : Nat, j ≤ nl ∧ i = .int .i64 (j : Nat) ∧ Oc.OwnS wr z u (H3 ++ spsF (L.take j)) ∧ Below w.heap.size w wr ∧ KB W7 wr ∧ z ≤ wr.heap.size) (fun _ i _ => nl - (intOf i).toNat)
              case atStart => exact ⟨0, Nat.zero_le _, rfl, by rw [List.take_zero]; simpa [spsF] using HO8.out, HB8.out, HK8.out, hz8⟩
              case round =>
                obtain ⟨j, hj, rfl, hO, hB, hK, hzr⟩ := hrel
                by_cases hjl : j < nl
                · have hjn : j < L.length := by rw [← HNL.out]; exact hjl
                  have hsps := HS5.out wr hK
                  rcases hsps with h0 | ⟨b, off, rfl, hc⟩
                  · rw [h0] at hjn; simp at hjn
                  · have hcc := hc j _ (List.getElem?_eq_getElem hjn)
                    obtain ⟨⟨m1, m2⟩, m3, m4⟩ := HS3.out j _ (List.getElem?_eq_getElem hjn)
                    obtain ⟨y, hy⟩ : ∃ y, y = L[j] := ⟨_, rfl⟩
                    rw [← hy] at hcc m1 m2 m3 m4
                    have HNK : Hid (L.take (j + 1) = L.take j ++ [y]) := by rw [hy, List.take_succ_eq_append_getElem hjn]; rfl
                    obtain ⟨d0, d1⟩ := hcc
                    obtain ⟨y1, hy1⟩ : ∃ y1 : Nat, y.lo = y1 := ⟨y.lo.toNat, by omega⟩
                    obtain ⟨y2, hy2⟩ : ∃ y2 : Nat, y.hi = y2 := ⟨y.hi.toNat, by omega⟩
                    rw [hy1] at d0
                    rw [hy2] at d1
                    have HSF : Hid (spF y = flat4 [y1, y2]) := by
                      unfold spF
                      rw [hy1, hy2]
                      rfl
                    have hb1 := box_below wr (.cells #[.int .i32 (y1 : Nat), .int .i32 (y2 : Nat)] 40)
                    obtain ⟨W9, hW9⟩ : ∃ W9, W9 = wr.alloc (.cells #[.int .i32 (y1 : Nat), .int .i32 (y2 : Nat)] 40) := ⟨_, rfl⟩
                    have hW9s : W9.heap.size = wr.heap.size + 1 := by rw [hW9]; simp
                    rw [← hW9] at hb1
                    have hb2 := box_below W9 (.cells #[.int .i64 (y1 : Nat), .int .i64 (y2 : Nat)] 3)
                    have hn2 : NumsAt (W9.alloc (.cells #[.int .i64 (y1 : Nat), .int .i64 (y2 : Nat)] 3)) (wr.heap.size + 1) [y1, y2] := by rw [← hW9s]; exact nums_new W9 [y1, y2]
                    have hml := spsF_len (L.take j)
                    have hml2 : (spsF (L.take j)).length ≤ 512 * 8 := by rw [hml, List.length_take]; omega
                    have hO9 := (hO.below hb1 (Nat.le_refl _)).below hb2 (Nat.le_refl _)
                    have t1 := m2
                    have t2 := m4
                    rw [hy1] at t1
                    rw [hy2] at t2
                    have HLD := laid_any z (wr.heap.size + 1) 2 u4 _ [y1, y2] _ hO9 hn2 (by simp; omega) (by have := hb1.size; have := hb2.size; omega) (by rw [List.length_append]; simp; omega)
                    have HB9 : Hid (Below w.heap.size w (W9.alloc (.cells #[.int .i64 (y1 : Nat), .int .i64 (y2 : Nat)] 3))) := (hB.trans (hb1.mono hB.size)).trans (hb2.mono (Nat.le_trans hB.size hb1.size))
                    have HK9 : Hid (KB W7 (W9.alloc (.cells #[.int .i64 (y1 : Nat), .int .i64 (y2 : Nat)] 3))) := (hK.trans (KB.of_below hb1)).trans (KB.of_below hb2)
                    have hz9 : z ≤ (W9.alloc (.cells #[.int .i64 (y1 : Nat), .int .i64 (y2 : Nat)] 3)).heap.size := by have := hb1.size; have := hb2.size; omega
                    have HW9 : Hid (W9 = wr.alloc (.cells #[.int .i32 (y1 : Nat), .int .i32 (y2 : Nat)] 40)) := hW9
                    clear hy hO hy1 hy2 hW9 hb1 hb2 hn2 hml hO9 hB hK m1 m2 m3 m4 hc
                    go_wp2_with fail
                    rw [← HW9.out]
                    refine HLD.mono ?_
                    rintro e w10 ⟨v10, rfl, ho10, hb10, hk10⟩
                    have HO10 : Hid (Oc.OwnS w10 z v10 (H3 ++ spsF (L.take (j + 1)))) := by rw [HNK.out, spsF_snoc, HSF.out, ← List.append_assoc]; exact ho10
                    have HB10 : Hid (Below w.heap.size w w10) := HB9.out.trans (hb10.mono hzw)
                    have HK10 : Hid (KB W7 w10) := HK9.out.trans hk10
                    have hz10 : z ≤ w10.heap.size := Nat.le_trans hz9 hb10.size
                    clear HLD ho10 hb10 hk10 hz9 hW9s
                    go_wp2_with fail
                    go_roundw
                    case rel => exact ⟨j + 1, by omega, by go_num, HO10.out, HB10.out, HK10.out, hz10⟩
                    case measure => simp only [intOf]; omega
                · have hjm : L.take j = L := List.take_of_length_le (by rw [← HNL.out]; omega)
                  rw [hjm] at hO
                  have HO11 : Hid (Oc.OwnS wr z u4 (H2 ++ spF3 A B C (k + 1))) := by
                    rw [HS2.out, show spansF L = flat4 [nl] ++ spsF L by rw [HNL.out]; simp [spansF, spsF, flat4], ← List.append_assoc, ← List.append_assoc, ← HH3.out]
                    exact hO
                  have HB11 : Hid (Below w.heap.size w wr) := hB
                  have HK11 : Hid (KB W7 wr) := hK
                  clear hO hjm hB hK
                  go_wp2_with fail
                  go_roundw
                  case rel => exact ⟨k + 1, by omega, by go_num, HO11.out, HB11.out, HK11.out, hzr⟩
                  case measure => simp only [intOf]; omega
            · have hk3 : k = 3 := by omega
              rw [hk3] at hO
              have hF : H2 ++ spF3 A B C 3 = bodyF ws ms A B C := by
                rw [HH2.out, HH1.out, HNW.out]
                simp [spF3, bodyF]
              rw [hF] at hO
              have hbl : (bodyF ws ms A B C).length ≤ 2000000 := by
                rw [← hF, List.length_append]
                have la := spansF_len A
                have lb := spansF_len B
                have lc := spansF_len C
                have : (spF3 A B C 3).length ≤ 3 * 4100 := by simp [spF3]; omega
                omega
              have hbl0 : 4 ≤ (bodyF ws ms A B C).length := by
                unfold bodyF
                simp only [List.length_append]
                have : magicL.length = 4 := rfl
                omega
              obtain ⟨F, hFF⟩ : ∃ F, F = bodyF ws ms A B C := ⟨_, rfl⟩
              have HFILE : Hid (fileF ws ms A B C = F ++ Oc.be4 (Oc.crc F)) := by rw [hFF]; rfl
              rw [← hFF] at hO hbl hbl0
              obtain ⟨g2, cc2, rfl, q1, q2, q3, q4, hbs2⟩ := hO.form (by omega)
              have hS := Oc.sum_any (some ⟨g2, 0, none⟩) cc2 F wr (by omega) hbs2
              have hcl := Oc.crc_lt F
              have HBS : Hid (Oc.BS wr (some ⟨g2, 0, none⟩) F) := hbs2
              have HBB : Hid (Below w.heap.size w wr) := hB
              clear hO hF hFF hbs2 hB hK
              go_wp2_with fail
              refine hS.mono ?_
              rintro e w12 ⟨rfl, hb12⟩
              have hP := Oc.put_any (some ⟨g2, 0, none⟩) cc2 F (Oc.crc F) hcl w12 (by omega) q3 (HBS.out.below hb12)
              have HB12 : Hid (Below w.heap.size w w12) := HBB.out.trans (hb12.mono (by exact HBB.out.size))
              clear hS hb12
              go_wp2_with fail
              refine hP.mono ?_
              rintro e w13 ⟨v13, rfl, ho13, hb13⟩
              go_wp2_with fail
              go_ret
              exact ⟨v13, rfl, (by rw [HFILE.out]; exact OwnB.low ho13 HB12.out.size), HB12.out.trans (hb13.mono HB12.out.size)⟩
end Go.Proofs.YtplmmamebfpcjaaDoor
end
section
/- Books of memory: what all kinds share: blocks that have turned, blocks by type, a value's block if it has room. -/
namespace Go.Proofs.YtplmmamebfpcjaaDoor
open Go.RowKit Go.Sort
open Go.Joins
/-- No block but those of S has turned. -/
structure Only (w w' : World) (S : Nat → Prop) : Prop where
  os : w'.os = w.os
  tape : w'.tape = w.tape
  output : w'.output = w.output
  size : w.heap.size ≤ w'.heap.size
  block : ∀ k, k < w.heap.size → ¬ S k → w'.heap[k]? = w.heap[k]?
theorem Only.refl (w : World) (S : Nat → Prop) : Only w w S := ⟨rfl, rfl, rfl, Nat.le_refl _, fun _ _ _ => rfl⟩
theorem Only.trans {a b c : World} {S S1 : Nat → Prop} (h : Only a b S) (k : Only b c S1) (hs : ∀ i, i < a.heap.size → S1 i → S i) : Only a c S :=
  ⟨k.os.trans h.os, k.tape.trans h.tape, k.output.trans h.output, Nat.le_trans h.size k.size, fun i hi hn =>
    (k.block i (Nat.lt_of_lt_of_le hi h.size) (fun h1 => hn (hs i hi h1))).trans (h.block i hi hn)⟩
theorem Only.wider {w w' : World} {S T : Nat → Prop} (h : Only w w' S) (hs : ∀ i, i < w.heap.size → S i → T i) : Only w w' T := ⟨h.os, h.tape, h.output, h.size, fun k hk hn => h.block k hk (fun h1 => hn (hs k hk h1))⟩
theorem Only.below {w w' : World} {S : Nat → Prop} {base : Nat} (h : Only w w' S) (hS : ∀ i, S i → base ≤ i) (hb : base ≤ w.heap.size) : Below base w w' :=
  ⟨h.os, h.tape, h.output, h.size, fun k hk => h.block k (by omega) (fun h1 => by have := hS k h1; omega)⟩
theorem Only.ofGrown {w w' : World} {S : Nat → Prop} {row : Option Nat} (h : w.grownBy w' row) (hS : ∀ i, row = some i → S i) : Only w w' S :=
  ⟨h.os, h.tape, h.output, h.size, fun k hk hn => h.block k hk (fun e => hn (hS k e.symm))⟩
theorem Only.ofBelow {w w' : World} {S : Nat → Prop} (h : Below w.heap.size w w') : Only w w' S := ⟨h.os, h.tape, h.output, h.size, fun k hk _ => h.block k hk⟩
theorem Only.alloc (w : World) (S : Nat → Prop) (o : Obj) : Only w (w.alloc o) S := ⟨rfl, rfl, rfl, by simp, fun k hk _ => Below.heap_alloc _ _ _ hk⟩
theorem Only.set {w : World} {S : Nat → Prop} (b o : Nat) (v : Value) (h : S b) : Only w (w.setCell ⟨b, o, none⟩ v) S :=
  ⟨rfl, rfl, rfl, by simp [World.setCell], fun k _ hn => Below.heap_setCell _ _ _ _ (by intro e; exact hn (by rw [e]; exact h))⟩
theorem Only.drewN {w w' : World} {S : Nat → Prop} (h : Only w w' S) (k : Nat) : Only w (w'.drewN k) S := ⟨h.os, h.tape, h.output, h.size, h.block⟩
/-- The same memory, whatever has been drawn. -/
structure Like (w w' : World) : Prop where
  heap : w'.heap = w.heap
  os : w'.os = w.os
  tape : w'.tape = w.tape
  output : w'.output = w.output
theorem Like.refl (w : World) : Like w w := ⟨rfl, rfl, rfl, rfl⟩
theorem Like.drew {w w' : World} (h : Like w w') : Like w w'.drew := ⟨h.heap, h.os, h.tape, h.output⟩
theorem Like.only {w w' : World} (h : Like w w') (S : Nat → Prop) : Only w w' S := ⟨h.os, h.tape, h.output, by rw [h.heap]; exact Nat.le_refl _, fun k _ _ => by rw [h.heap]⟩
/-- Two blocks of unlike types are two. -/
theorem apart_types {w : World} {g g' : Nat} {c c' : Array Value} {t t' : TypeId} {f f' : Nat × Nat} (h : w.heap[g]? = some (.cells c t f)) (h' : w.heap[g']? = some (.cells c' t' f')) (ht : t ≠ t') : g ≠ g' := by
  intro e; subst e; rw [h] at h'; simp at h'; exact ht h'.2.1
/-- A value's block, if it has room in it. -/
def ob : Value → Option Nat
  | .slice (some a) _ c => if c = 0 then none else some a.block
  | _ => none
theorem ob_some {a : Addr} {n c : Nat} (h : 0 < c) : ob (.slice (some a) n c) = some a.block := if_neg (by omega)
theorem ob_zero {a : Option Addr} {n : Nat} : ob (.slice a n 0) = none := by cases a <;> rfl
/-- The block is of that type. -/
def TyB (w : World) (t : TypeId) (k : Nat) : Prop := ∃ cur, w.heap[k]? = some (.cells cur t (0, 0))
theorem TyB.ne {w : World} {t t' : TypeId} {k k' : Nat} (h : TyB w t k) (h' : TyB w t' k') (ht : t ≠ t') : k ≠ k' := by
  obtain ⟨c, h⟩ := h
  obtain ⟨c', h'⟩ := h'
  exact apart_types h h' ht
/-- append, as one step of a region that draws, by what its run leaves. -/
theorem step_append_ex {P : Program} {ops : Array Oper} {o : Oper} {a : Act} {w : World} {K : Act → World → Prop} {Q : Exit → Act → World → Prop} {E : Prop}
    (hg : o.guard = none) (s x : Operand) (t tx : TypeId) (hop : o.op = Op.call { callee := Callee.builtin Builtin.append, args := #[s, x], argTypes := #[t, tx] }) (v y : Value) (hs : a.eval s = v) (hx : a.eval x = y) (R : Value → World → Prop)
    (hr : ∃ v' w', (Builtin.append_ #[t, tx] o.type #[v, y]).run P w = .ok v' w' ∧ R v' w') (hK : ∀ v' w', R v' w' → K (a.put o.dst v') w') :
    if Region.wanted o (yielded ops a.tmps) = true then Oper.wp P o a w K Q else E := by
  have hw : Region.wanted o (yielded ops a.tmps) = true := by simp [Region.wanted, hg]
  rw [if_pos hw]
  obtain ⟨v', w', hrun, hR⟩ := hr
  unfold Oper.wp
  simp [execOp, hop, resolve, invoke, builtin, hs, hx, hrun, Result.andThen]
  exact hK v' w' hR
end Go.Proofs.YtplmmamebfpcjaaDoor
end
