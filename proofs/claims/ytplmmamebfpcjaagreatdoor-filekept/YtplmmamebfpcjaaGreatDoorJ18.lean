import Derived.Test.YtplmmamebfpcjaaGreatDoorJ16
import Derived.Test.YtplmmamebfpcjaaGreatDoorJ17
import Derived.Test.YtplmmamebfpcjaaGreatDoorJ15
import Derived.Shelf.Strconv.Itoa3
import Derived.Test.YtplmmamebfpcjaaGreatDoorProg
import Derived.Test.YtplmmamebfpcjaaGreatDoorJ5
import Derived.LaidEql
import Derived.Stop.Asserts
import Derived.Stop.IfaceNil
import Derived.Lib.IfaceEq
import Derived.RowKitTokens
import Derived.Test.YtplmmamebfpcjaaGreatDoorJ1
import Derived.ProofKit
import Derived.LaidMore
import Derived.OpenShut
import Derived.Stop.Joined
import Derived.Lib.LaidTab
import Derived.Test.YtplmmamebfpcjaaGreatDoorJ8
import Derived.Lib.SmallJoins
import Derived.Lib.AppendIntMem
import Derived.Lib.ItoaLen
section
/- file.Save: its contract. -/
namespace Go.Proofs.YtplmmamebfpcjaaGreatDoor
open Go.RowKit Go.Sort Go.Joins
set_option linter.unusedVariables false
set_option maxRecDepth 100000
theorem WPR.kb {w w' : World} {lo c : Nat} {a : Option Addr} {l : List ByteArray} (h : WPR w lo a c l) (hk : KB w w') : WPR w' lo a c l := by
  rcases h with h | ⟨g, cur, h1, h2, h3, h4⟩
  · exact .inl h
  · exact .inr ⟨g, cur, h1, h2, hk _ (by decide) _ _ _ h3, h4⟩
theorem MPR.kb {w w' : World} {lo c : Nat} {a : Option Addr} {l : List Mg} (h : MPR w lo a c l) (hk : KB w w') : MPR w' lo a c l := by
  rcases h with h | ⟨g, cur, h1, h2, h3, h4⟩
  · exact .inl h
  · exact .inr ⟨g, cur, h1, h2, hk _ (by decide) _ _ _ h3, h4⟩
theorem SPRc.kb {w w' : World} {lo c : Nat} {a : Option Addr} {l : List Sp} (h : SPRc w lo a c l) (hk : KB w w') : SPRc w' lo a c l := by
  rcases h with h | ⟨g, cur, h1, h2, h3, h4⟩
  · exact .inl h
  · exact .inr ⟨g, cur, h1, h2, hk _ (by decide) _ _ _ h3, h4⟩
/-- Lists of data in memory, kept while bytes are written. -/
def Lists (w : World) (a0 a1 a2 a3 a4 : Option Addr) (c0 c1 c2 c3 c4 lo : Nat) (ws : List ByteArray) (ms : List Mg) (A B C : List Sp) : Prop := WPR w lo a0 c0 ws ∧ MPR w lo a1 c1 ms ∧ SPRc w lo a2 c2 A ∧ SPRc w lo a3 c3 B ∧ SPRc w lo a4 c4 C
theorem Lists.kb {w w' : World} {a0 a1 a2 a3 a4 : Option Addr} {c0 c1 c2 c3 c4 lo : Nat} {ws : List ByteArray} {ms : List Mg} {A B C : List Sp} (h : Lists w a0 a1 a2 a3 a4 c0 c1 c2 c3 c4 lo ws ms A B C) (hk : KB w w') : Lists w' a0 a1 a2 a3 a4 c0 c1 c2 c3 c4 lo ws ms A B C :=
  ⟨h.1.kb hk, h.2.1.kb hk, h.2.2.1.kb hk, h.2.2.2.1.kb hk, h.2.2.2.2.kb hk⟩
theorem DBox.kb {w w' : World} {z : Nat} {v0 v1 v2 v3 v4 : Value} (h : DBox w z v0 v1 v2 v3 v4) (hk : KB w w') : DBox w' z v0 v1 v2 v3 v4 := hk _ (by decide) _ _ _ h
set_option maxHeartbeats 400000 in
theorem save_nil (w : World) : Calls Tryz.prog 11 #[.pointer none] w fun e w' => e = .returned (.slice none 0 0) ∧ w' = w := by
  go_enter Tryz.func11, Tryz.ntmps11
  go_wp2_with fail
  go_ret
  exact ⟨rfl, rfl⟩
theorem nums_new (w : World) (ns : List Nat) : NumsAt (w.alloc (.cells (cellsI ns).toArray 3)) w.heap.size ns := heap_alloc_new _ _
set_option maxHeartbeats 4000000 in
theorem save_any (g lo : Nat) (ws : List ByteArray) (ms : List Mg) (A B C : List Sp) (w : World) (hk : MOk ws ms A B C) (h : ModelAt w lo g ws ms A B C) :
    Calls Tryz.prog 11 #[.pointer (some ⟨g, 0, none⟩)] w (Oc.NewBytes w (fileF ws ms A B C)) := by
  have HD0 := data_any g lo ws ms A B C w hk h
  have hnm : Hid (ws.length = ms.length) := hk.nm
  have hm4 := hk.m4
  have hw4 : ws.length ≤ 4096 := by have := hk.nm; omega
  have hla := hk.la
  have hlb := hk.lb
  have hlc := hk.lc
  have HMB : Hid (Mb ms) := hk.mb
  have HSB : Hid (Sb A ∧ Sb B ∧ Sb C) := hk.sb
  have HWB : Hid (∀ (i : Nat) x, ws[i]? = some x → x.size ≤ 256) := hk.wb
  obtain ⟨nw, hnw⟩ : ∃ nw, nw = ws.length := ⟨_, rfl⟩
  obtain ⟨nm, hnmm⟩ : ∃ nm, nm = ms.length := ⟨_, rfl⟩
  rw [← hnw, ← hnmm] at HD0
  have HNW : Hid (nw = ws.length) := hnw
  have HNM : Hid (nm = ms.length) := hnmm
  have hnw4 : nw ≤ 4096 := by omega
  have hnm4 : nm ≤ 4096 := by omega
  clear hk h hnw hnmm hw4 hm4
  go_enter Tryz.func11, Tryz.ntmps11
  go_wp2_with fail
  refine HD0.mono ?_
  rintro e w1 ⟨a0, c0, a1, c1, a2, c2, a3, c3, a4, c4, rfl, hO, hb1⟩
  have hDn := DBox.new w1 (.slice a0 nw c0) (.slice a1 nm c1) (.slice a2 A.length c2) (.slice a3 B.length c3) (.slice a4 C.length c4)
  obtain ⟨s3, s4, q1, q2, o2, u2, o3, u3, o4⟩ := hO.spans
  have hL1 : Lists w1 a0 a1 a2 a3 a4 c0 c1 c2 c3 c4 0 ws ms A B C := ⟨hO.words.row.low (Nat.zero_le _), hO.merges.row.low (Nat.zero_le _), o2.row.low (Nat.zero_le _), o3.row.low (Nat.zero_le _), o4.row.low (Nat.zero_le _)⟩
  have hb2 := box_below w1 (.cells #[.slice a0 nw c0, .slice a1 nm c1, .slice a2 A.length c2, .slice a3 B.length c3, .slice a4 C.length c4] 26)
  obtain ⟨Y, hY⟩ : ∃ Y, Y = w1.alloc (.cells #[.slice a0 nw c0, .slice a1 nm c1, .slice a2 A.length c2, .slice a3 B.length c3, .slice a4 C.length c4] 26) := ⟨_, rfl⟩
  have hYs : Y.heap.size = w1.heap.size + 1 := by rw [hY]; simp
  have hcv := run_convert_bytes_const_at (P := Tryz.prog) Y 32 5 #[.int .u8 66, .int .u8 80, .int .u8 69, .int .u8 49] 4 4 (w1.heap.size + 1) hYs.symm Tryz.underlying32 Tryz.underlying5
  rw [hY] at hcv
  rw [← hY] at hb2 hDn
  have hd0 : (w1.alloc (.cells #[.slice a0 nw c0, .slice a1 nm c1, .slice a2 A.length c2, .slice a3 B.length c3, .slice a4 C.length c4] 26)).cell? ⟨w1.heap.size, 0, none⟩ = some (.slice a0 nw c0) := by rw [← hY]; exact hDn.c0
  clear HD0 hO q1 q2 o2 u2 o3 u3 o4
  go_wp2_with fail
  rw [← hY]
  have hb3 := (Below.refl Y.heap.size Y).alloc (Nat.le_refl _) (.cells #[.int .u8 66, .int .u8 80, .int .u8 69, .int .u8 49] 5 (4, 5))
  have hbs3 : Oc.BS (Y.alloc (.cells #[.int .u8 66, .int .u8 80, .int .u8 69, .int .u8 49] 5 (4, 5))) (some ⟨w1.heap.size + 1, 0, none⟩) magicL := by
    rw [← hYs]; exact Oc.BS.marked Y magicL 5 (4, 5)
  obtain ⟨Y3, hY3⟩ : ∃ Y3, Y3 = Y.alloc (.cells #[.int .u8 66, .int .u8 80, .int .u8 69, .int .u8 49] 5 (4, 5)) := ⟨_, rfl⟩
  have hY3s : Y3.heap.size = w1.heap.size + 2 := by rw [hY3]; simp [hYs]
  rw [← hY3] at hb3 hbs3
  have hb4 := box_below Y3 (.cells #[.int .i64 (nw : Nat)] 3)
  have hns4 : NumsAt (Y3.alloc (.cells #[.int .i64 (nw : Nat)] 3)) (w1.heap.size + 2) [nw] := by rw [← hY3s]; exact nums_new Y3 [nw]
  have HY3 : Hid (Y3 = Y.alloc (.cells #[.int .u8 66, .int .u8 80, .int .u8 69, .int .u8 49] 5 (4, 5))) := hY3
  have HLF := laid_full (w1.heap.size + 2) 1 nw ⟨w1.heap.size + 1, 0, none⟩ magicL _ (hbs3.below hb4) hns4 (by omega) (by decide)
  rw [← hY3]
  clear hbs3 hns4 hcv hd0 hY3 hY
  refine HLF.mono ?_
  rintro e w4 ⟨v4, rfl, ho4, hb5⟩
  have B4 : Below w.heap.size w w4 := (((hb1.trans (hb2.mono hb1.size)).trans (hb3.mono (by have := hb1.size; omega))).trans (hb4.mono (by have := hb1.size; omega))).trans (hb5.mono (by have := hb1.size; have := hb4.size; omega))
  have hD4 := (((hDn.kb (KB.of_below hb3)).kb (KB.of_below hb4)).kb (KB.of_below hb5))
  have hL4 := ((((hL1.kb (KB.of_below hb2)).kb (KB.of_below hb3)).kb (KB.of_below hb4)).kb (KB.of_below hb5))
  have hz4 : w1.heap.size ≤ w4.heap.size := by have := hb4.size; have := hb5.size; omega
  have ho4' := OwnB.low (B := w1.heap.size) ho4 (by have := hb4.size; omega)
  have hzw : w.heap.size ≤ w1.heap.size := hb1.size
  obtain ⟨z, hz⟩ : ∃ z, z = w1.heap.size := ⟨_, rfl⟩
  rw [← hz] at hD4 ho4' hz4 hzw ⊢
  have HO4 : Hid (Oc.OwnS w4 z v4 (magicL ++ Oc.be4 nw)) := ho4'
  have HD4 : Hid (DBox w4 z (.slice a0 nw c0) (.slice a1 nm c1) (.slice a2 A.length c2) (.slice a3 B.length c3) (.slice a4 C.length c4)) := hD4
  have HL4 : Hid (Lists w4 a0 a1 a2 a3 a4 c0 c1 c2 c3 c4 0 ws ms A B C) := hL4
  clear hb1 hb2 hb3 hb4 hb5 hL1 hDn ho4 ho4' hL4 HLF hYs hY3s HY3 hz
  have e0 := hD4.c0
  clear hD4
  go_wp2_with fail
  have hH0 : (magicL ++ Oc.be4 nw).length = 8 := rfl
  go_loopw [4, 27] (fun u i wr => ∃ k : Nat, k ≤ nw ∧ i = .int .i64 (k : Nat) ∧ Oc.OwnS wr z u (magicL ++ Oc.be4 nw ++ wordsF (ws.take k)) ∧ Below w.heap.size w wr ∧ KB w4 wr ∧ z ≤ wr.heap.size) (fun _ i _ => nw - (intOf i).toNat)
  case atStart => exact ⟨0, Nat.zero_le _, rfl, by rw [List.take_zero]; simpa [wordsF] using HO4.out, B4, KB.refl _, hz4⟩
  case round =>
    obtain ⟨k, hk, rfl, hO, hB, hK, hzr⟩ := hrel
    by_cases hlt : k < nw
    · have hkn : k < ws.length := by rw [← HNW.out]; exact hlt
      obtain ⟨b, off, rfl, hc⟩ := ((HL4.out.kb hK).1).sp.at_ (List.getElem?_eq_getElem hkn)
      have hxs := HWB.out k _ (List.getElem?_eq_getElem hkn)
      obtain ⟨x, hx⟩ : ∃ x, x = ws[k] := ⟨_, rfl⟩
      rw [← hx] at hc hxs
      have HNK : Hid (ws.take (k + 1) = ws.take k ++ [x]) := by rw [hx, List.take_succ_eq_append_getElem hkn]; rfl
      have hP := Oc.puttext_any none 0 [] x wr (by simp; omega) (by simp) (.inl rfl)
      rw [List.nil_append] at hP
      have hwl := wordsF_len (ws.take k) (fun i y hy => HWB.out i y (by rw [List.getElem?_take] at hy; split at hy <;> simp_all))
      have hwl2 : (wordsF (ws.take k)).length ≤ 4096 * 260 := by rw [List.length_take] at hwl; omega
      have HOK : Hid (Oc.OwnS wr z u4 (magicL ++ Oc.be4 nw ++ wordsF (ws.take k))) := hO
      clear hx hO hwl
      go_wp2_with fail
      refine hP.mono ?_
      rintro e w5 ⟨v1, rfl, ho1, hb1⟩
      have hxl : (Oc.be4 x.size ++ x.data.toList).length = 4 + x.size := by rw [List.length_append, show x.data.toList.length = x.size from Array.length_toList]; rfl
      obtain ⟨g1, cc1, rfl, q1, q2, q3, q4, hbs1⟩ := ho1.form (by rw [hxl]; omega)
      obtain ⟨v2, w6, hr2, ho2, hb2, hk2⟩ := app_bytes w5 z u4 _ (Oc.be4 x.size ++ x.data.toList) ⟨g1, 0, none⟩ cc1 (HOK.out.below hb1 (Nat.le_refl _)) hbs1 (Nat.le_trans hzr hb1.size) (by rw [List.length_append, hxl, hH0]; omega)
      have HO2 : Hid (Oc.OwnS w6 z v2 (magicL ++ Oc.be4 nw ++ wordsF (ws.take (k + 1)))) := by rw [HNK.out, wordsF_snoc, ← List.append_assoc]; exact ho2
      have HB2 : Hid (Below w.heap.size w w6) := (hB.trans (hb1.mono hB.size)).trans (hb2.mono hzw)
      have HK2 : Hid (KB w4 w6) := (hK.trans (KB.of_below hb1)).trans hk2
      have hz6 : z ≤ w6.heap.size := Nat.le_trans hzr (Nat.le_trans hb1.size hb2.size)
      rw [hxl] at hr2
      rw [hxl]
      clear hP ho1 hbs1 ho2 hb2 hk2 hB hK hb1 hc hxl
      go_wp2_with (at_builtin; refine wpList_append_run rfl (.tmp 31) (.tmp 33) 32 32 rfl _ _ rfl rfl _ w6 hr2 ?_; clear hr2)
      go_roundw
      case rel => exact ⟨k + 1, by omega, by go_num, HO2.out, HB2.out, HK2.out, hz6⟩
      case measure => simp only [intOf]; omega
    · have hkm : ws.take k = ws := List.take_of_length_le (by rw [← HNW.out]; omega)
      rw [hkm] at hO
      have hwl := wordsF_len ws HWB.out
      have hwl2 : (wordsF ws).length ≤ 4096 * 260 := by rw [← HNW.out] at hwl; omega
      have HO5 : Hid (Oc.OwnS wr z u4 (magicL ++ Oc.be4 nw ++ wordsF ws)) := hO
      have HD5 := HD4.out.kb hK
      have HL5 : Hid (Lists wr a0 a1 a2 a3 a4 c0 c1 c2 c3 c4 0 ws ms A B C) := HL4.out.kb hK
      have e1 := HD5.c1
      have HDB5 : Hid (DBox wr z (.slice a0 nw c0) (.slice a1 nm c1) (.slice a2 A.length c2) (.slice a3 B.length c3) (.slice a4 C.length c4)) := HD5
      clear hO hkm HO4 HD4 HL4 HD5 hK hwl e0
      obtain ⟨W5, hW5⟩ : ∃ W, W = wr := ⟨_, rfl⟩
      rw [← hW5] at HO5 HL5 e1 HDB5 hB hzr ⊢
      clear hW5
      go_wp2_with fail
      have hl1 : (wordsF ws).length ≤ 1064960 := by omega
      obtain ⟨H1, hH1⟩ : ∃ H1, H1 = magicL ++ Oc.be4 nw ++ wordsF ws := ⟨_, rfl⟩
      have hH1l : H1.length ≤ 1064968 := by rw [hH1, List.length_append, hH0]; omega
      rw [← hH1] at HO5
      have HH1 : Hid (H1 = magicL ++ Oc.be4 nw ++ wordsF ws) := hH1
      clear hH1 hl1 hwl2 e1 hH0
      go_loopw [4, 39] (fun u i wr => ∃ k : Nat, k ≤ nm ∧ i = .int .i64 (k : Nat) ∧ Oc.OwnS wr z u (H1 ++ mgsF (ms.take k)) ∧ Below w.heap.size w wr ∧ KB W5 wr ∧ z ≤ wr.heap.size) (fun _ i _ => nm - (intOf i).toNat)
      case atStart => exact ⟨0, Nat.zero_le _, rfl, by rw [List.take_zero]; simpa [mgsF] using HO5.out, hB, KB.refl _, hzr⟩
      case round =>
        clear hB hzr
        obtain ⟨k, hk, rfl, hO, hB, hK, hzr⟩ := hrel
        by_cases hlt : k < nm
        · have hkn : k < ms.length := by rw [← HNM.out]; exact hlt
          obtain ⟨b, off, rfl, hc⟩ := ((HL5.out.kb hK).2.1).sp.at_ (List.getElem?_eq_getElem hkn)
          obtain ⟨⟨m1, m2⟩, ⟨m3, m4⟩, m5, m6⟩ := HMB.out k _ (List.getElem?_eq_getElem hkn)
          obtain ⟨x, hx⟩ : ∃ x, x = ms[k] := ⟨_, rfl⟩
          rw [← hx] at hc m1 m2 m3 m4 m5 m6
          have HNK : Hid (ms.take (k + 1) = ms.take k ++ [x]) := by rw [hx, List.take_succ_eq_append_getElem hkn]; rfl
          obtain ⟨d0, d1, d2⟩ := hc
          obtain ⟨y1, hy1⟩ : ∃ y1 : Nat, x.l = y1 := ⟨x.l.toNat, by omega⟩
          obtain ⟨y2, hy2⟩ : ∃ y2 : Nat, x.r = y2 := ⟨x.r.toNat, by omega⟩
          obtain ⟨y3, hy3⟩ : ∃ y3 : Nat, x.i = y3 := ⟨x.i.toNat, by omega⟩
          rw [hy1] at d0
          rw [hy2] at d1
          rw [hy3] at d2
          have HMG : Hid (mgF x = flat4 [y1, y2, y3]) := by
            unfold mgF
            rw [hy1, hy2, hy3]
            rfl
          have hb1 := box_below wr (.cells #[.int .i64 (y1 : Nat), .int .i64 (y2 : Nat), .int .i64 (y3 : Nat)] 75)
          obtain ⟨W6, hW6⟩ : ∃ W6, W6 = wr.alloc (.cells #[.int .i64 (y1 : Nat), .int .i64 (y2 : Nat), .int .i64 (y3 : Nat)] 75) := ⟨_, rfl⟩
          have hW6s : W6.heap.size = wr.heap.size + 1 := by rw [hW6]; simp
          rw [← hW6] at hb1
          have hb2 := box_below W6 (.cells #[.int .i64 (y1 : Nat), .int .i64 (y2 : Nat), .int .i64 (y3 : Nat)] 3)
          have hn2 : NumsAt (W6.alloc (.cells #[.int .i64 (y1 : Nat), .int .i64 (y2 : Nat), .int .i64 (y3 : Nat)] 3)) (wr.heap.size + 1) [y1, y2, y3] := by rw [← hW6s]; exact nums_new W6 [y1, y2, y3]
          have hml := mgsF_len (ms.take k)
          have hml2 : (mgsF (ms.take k)).length ≤ 4096 * 12 := by rw [hml, List.length_take]; omega
          have hO6 := (hO.below hb1 (Nat.le_refl _)).below hb2 (Nat.le_refl _)
          have HLD := laid_any z (wr.heap.size + 1) 3 u4 _ [y1, y2, y3] _ hO6 hn2 (by simp; omega) (by have := hb1.size; have := hb2.size; omega) (by rw [List.length_append]; simp; omega)
          have HB1 : Hid (Below w.heap.size w (W6.alloc (.cells #[.int .i64 (y1 : Nat), .int .i64 (y2 : Nat), .int .i64 (y3 : Nat)] 3))) := (hB.trans (hb1.mono hB.size)).trans (hb2.mono (Nat.le_trans hB.size hb1.size))
          have HK1 : Hid (KB W5 (W6.alloc (.cells #[.int .i64 (y1 : Nat), .int .i64 (y2 : Nat), .int .i64 (y3 : Nat)] 3))) := (hK.trans (KB.of_below hb1)).trans (KB.of_below hb2)
          have hz6 : z ≤ (W6.alloc (.cells #[.int .i64 (y1 : Nat), .int .i64 (y2 : Nat), .int .i64 (y3 : Nat)] 3)).heap.size := by have := hb1.size; have := hb2.size; omega
          have HW6 : Hid (W6 = wr.alloc (.cells #[.int .i64 (y1 : Nat), .int .i64 (y2 : Nat), .int .i64 (y3 : Nat)] 75)) := hW6
          have t1 := m2
          have t3 := m4
          have t5 := m6
          rw [hy1] at t1
          rw [hy2] at t3
          rw [hy3] at t5
          clear hx hO hy1 hy2 hy3 hW6 hb1 hb2 hn2 hml hO6 hB hK m1 m2 m3 m4 m5 m6
          go_wp2_with fail
          rw [← HW6.out]
          refine HLD.mono ?_
          rintro e w7 ⟨v7, rfl, ho7, hb7, hk7⟩
          have HO7 : Hid (Oc.OwnS w7 z v7 (H1 ++ mgsF (ms.take (k + 1)))) := by rw [HNK.out, mgsF_snoc, HMG.out, ← List.append_assoc]; exact ho7
          have HB7 : Hid (Below w.heap.size w w7) := HB1.out.trans (hb7.mono hzw)
          have HK7 : Hid (KB W5 w7) := HK1.out.trans hk7
          have hz7 : z ≤ w7.heap.size := Nat.le_trans hz6 hb7.size
          clear HLD ho7 hb7 hk7 hz6 hW6s
          go_wp2_with fail
          go_roundw
          case rel => exact ⟨k + 1, by omega, by go_num, HO7.out, HB7.out, HK7.out, hz7⟩
          case measure => simp only [intOf]; omega
        · have hkm : ms.take k = ms := List.take_of_length_le (by rw [← HNM.out]; omega)
          rw [hkm] at hO
          have hml2 : (mgsF ms).length ≤ 49152 := by rw [mgsF_len, ← HNM.out]; omega
          obtain ⟨H2, hH2⟩ : ∃ H2, H2 = H1 ++ mgsF ms := ⟨_, rfl⟩
          have hH2l : H2.length ≤ 1114120 := by rw [hH2, List.length_append]; omega
          rw [← hH2] at hO
          have HH2 : Hid (H2 = H1 ++ mgsF ms) := hH2
          have HD6 := HDB5.out.kb hK
          have HL6 := HL5.out.kb hK
          have e2 := HD6.c2
          have e3 := HD6.c3
          have e4 := HD6.c4
          have hb1 := box_below wr (.cells #[.slice a2 A.length c2, .slice a3 B.length c3, .slice a4 C.length c4] 24)
          have hZ := Blk.new wr (.cells #[.slice a2 A.length c2, .slice a3 B.length c3, .slice a4 C.length c4] 24)
          obtain ⟨W7, hW7⟩ : ∃ W7, W7 = wr.alloc (.cells #[.slice a2 A.length c2, .slice a3 B.length c3, .slice a4 C.length c4] 24) := ⟨_, rfl⟩
          obtain ⟨gb, hgb⟩ : ∃ gb, gb = wr.heap.size := ⟨_, rfl⟩
          rw [← hW7] at hb1 hZ
          rw [← hgb] at hZ
          have HO7 : Hid (Oc.OwnS W7 z u4 H2) := hO.below hb1 (Nat.le_refl _)
          have HL7 : Hid (Lists W7 a0 a1 a2 a3 a4 c0 c1 c2 c3 c4 0 ws ms A B C) := HL6.kb (KB.of_below hb1)
          have HB7 : Hid (Below w.heap.size w W7) := hB.trans (hb1.mono hB.size)
          have hz7 : z ≤ W7.heap.size := Nat.le_trans hzr hb1.size
          have HZ7 : Hid (Blk W7 gb (.cells #[.slice a2 A.length c2, .slice a3 B.length c3, .slice a4 C.length c4] 24)) := hZ
          have HW7 : Hid (W7 = wr.alloc (.cells #[.slice a2 A.length c2, .slice a3 B.length c3, .slice a4 C.length c4] 24)) := hW7
          have HGB : Hid (gb = wr.heap.size) := hgb
          clear hO hkm hH2 HO5 HDB5 HL5 HD6 HL6 hb1 hZ hW7 hgb hB hK hml2
          go_wp2_with fail
          rw [← HW7.out, ← HGB.out]
          clear e2 e3 e4
          go_loopw [4, 61] (fun u i wr => ∃ k : Nat, k ≤ 3 ∧ i = .int .i64 (k : Nat) ∧ Oc.OwnS wr z u (H2 ++ spF3 A B C k) ∧ Below w.heap.size w wr ∧ KB W7 wr ∧ z ≤ wr.heap.size) (fun _ i _ => 3 - (intOf i).toNat)
          case atStart => exact ⟨0, by omega, rfl, by simpa [spF3] using HO7.out, HB7.out, KB.refl _, hz7⟩
          case round =>
            obtain ⟨k, hk, rfl, hO, hB, hK, hzr⟩ := hrel
            by_cases hlt : k < 3
            · have hsel : ∃ x c L, (∀ w', Blk w' gb (.cells #[.slice a2 A.length c2, .slice a3 B.length c3, .slice a4 C.length c4] 24) → w'.cell? ⟨gb, k, none⟩ = some (.slice x L.length c)) ∧ spF3 A B C (k + 1) = spF3 A B C k ++ spansF L ∧ Sb L ∧ L.length ≤ 512 ∧ (∀ w', KB W7 w' → SPS w' x L) ∧ (spF3 A B C k).length ≤ 2 * 4100 := by
                have la := spansF_len A
                have lb := spansF_len B
                rcases (show k = 0 ∨ k = 1 ∨ k = 2 by omega) with rfl | rfl | rfl
                · exact ⟨a2, c2, A, fun w' h => h.cell 0, by simp [spF3], HSB.out.1, hla, fun w' h => ((HL7.out.kb h).2.2.1).sp, by simp [spF3]⟩
                · exact ⟨a3, c3, B, fun w' h => h.cell 1, by simp [spF3], HSB.out.2.1, hlb, fun w' h => ((HL7.out.kb h).2.2.2.1).sp, by simp [spF3]; omega⟩
                · exact ⟨a4, c4, C, fun w' h => h.cell 2, by simp [spF3], HSB.out.2.2, hlc, fun w' h => ((HL7.out.kb h).2.2.2.2).sp, by simp [spF3]; omega⟩
              obtain ⟨x, cx, L, sel1, sel2, sel3, sel4, sel5, sel6⟩ := hsel
              obtain ⟨nl, hnl⟩ : ∃ nl, nl = L.length := ⟨_, rfl⟩
              have ck := sel1 wr (hK _ (by decide) _ _ _ HZ7.out)
              rw [← hnl] at ck sel4
              have HNL : Hid (nl = L.length) := hnl
              have HS2 : Hid (spF3 A B C (k + 1) = spF3 A B C k ++ spansF L) := sel2
              have HS3 : Hid (Sb L) := sel3
              have HS5 : Hid (∀ w', KB W7 w' → SPS w' x L) := sel5
              have hb1 := box_below wr (.cells #[.int .i64 (nl : Nat)] 3)
              have hn1 : NumsAt (wr.alloc (.cells #[.int .i64 (nl : Nat)] 3)) wr.heap.size [nl] := nums_new wr [nl]
              have HLD := laid_any z wr.heap.size 1 u4 _ [nl] _ (hO.below hb1 (Nat.le_refl _)) hn1 (by simp; omega) (Nat.le_trans hzr hb1.size) (by rw [List.length_append]; simp; omega)
              have HB1 : Hid (Below w.heap.size w (wr.alloc (.cells #[.int .i64 (nl : Nat)] 3))) := hB.trans (hb1.mono hB.size)
              have HK1 : Hid (KB W7 (wr.alloc (.cells #[.int .i64 (nl : Nat)] 3))) := hK.trans (KB.of_below hb1)
              have hz1 := Nat.le_trans hzr hb1.size
              clear hnl sel1 sel2 sel3 sel5 hn1 hb1 hO hB hK
              go_wp2_with fail
              refine HLD.mono ?_
              rintro e w8 ⟨v8, rfl, ho8, hb8, hk8⟩
              have hz8 : z ≤ w8.heap.size := Nat.le_trans hz1 hb8.size
              have HB8 : Hid (Below w.heap.size w w8) := HB1.out.trans (hb8.mono hzw)
              have HK8 : Hid (KB W7 w8) := HK1.out.trans hk8
              obtain ⟨H3, hH3⟩ : ∃ H3, H3 = H2 ++ spF3 A B C k ++ flat4 [nl] := ⟨_, rfl⟩
              have hH3l : H3.length ≤ 1122324 := by rw [hH3, List.length_append, List.length_append, flat4_length]; simp; omega
              rw [← hH3] at ho8
              have HO8 : Hid (Oc.OwnS w8 z v8 H3) := ho8
              have HH3 : Hid (H3 = H2 ++ spF3 A B C k ++ flat4 [nl]) := hH3
              clear HLD ho8 hb8 hk8 hz1 hH3 sel6 ck
              go_wp2_with fail
              go_loopw [4, 72] (fun u i wr => ∃ j : Nat, j ≤ nl ∧ i = .int .i64 (j : Nat) ∧ Oc.OwnS wr z u (H3 ++ spsF (L.take j)) ∧ Below w.heap.size w wr ∧ KB W7 wr ∧ z ≤ wr.heap.size) (fun _ i _ => nl - (intOf i).toNat)
              case atStart => exact ⟨0, Nat.zero_le _, rfl, by rw [List.take_zero]; simpa [spsF] using HO8.out, HB8.out, HK8.out, hz8⟩
              case round =>
                obtain ⟨j, hj, rfl, hO, hB, hK, hzr⟩ := hrel
                by_cases hjl : j < nl
                · have hjn : j < L.length := by rw [← HNL.out]; exact hjl
                  have hsps := HS5.out wr hK
                  rcases hsps with h0 | ⟨b, off, rfl, hc⟩
                  · rw [h0] at hjn; simp at hjn
                  · have hcc := hc j _ (List.getElem?_eq_getElem hjn)
                    obtain ⟨⟨m1, m2⟩, m3, m4⟩ := HS3.out j _ (List.getElem?_eq_getElem hjn)
                    obtain ⟨y, hy⟩ : ∃ y, y = L[j] := ⟨_, rfl⟩
                    rw [← hy] at hcc m1 m2 m3 m4
                    have HNK : Hid (L.take (j + 1) = L.take j ++ [y]) := by rw [hy, List.take_succ_eq_append_getElem hjn]; rfl
                    obtain ⟨d0, d1⟩ := hcc
                    obtain ⟨y1, hy1⟩ : ∃ y1 : Nat, y.lo = y1 := ⟨y.lo.toNat, by omega⟩
                    obtain ⟨y2, hy2⟩ : ∃ y2 : Nat, y.hi = y2 := ⟨y.hi.toNat, by omega⟩
                    rw [hy1] at d0
                    rw [hy2] at d1
                    have HSF : Hid (spF y = flat4 [y1, y2]) := by
                      unfold spF
                      rw [hy1, hy2]
                      rfl
                    have hb1 := box_below wr (.cells #[.int .i32 (y1 : Nat), .int .i32 (y2 : Nat)] 78)
                    obtain ⟨W9, hW9⟩ : ∃ W9, W9 = wr.alloc (.cells #[.int .i32 (y1 : Nat), .int .i32 (y2 : Nat)] 78) := ⟨_, rfl⟩
                    have hW9s : W9.heap.size = wr.heap.size + 1 := by rw [hW9]; simp
                    rw [← hW9] at hb1
                    have hb2 := box_below W9 (.cells #[.int .i64 (y1 : Nat), .int .i64 (y2 : Nat)] 3)
                    have hn2 : NumsAt (W9.alloc (.cells #[.int .i64 (y1 : Nat), .int .i64 (y2 : Nat)] 3)) (wr.heap.size + 1) [y1, y2] := by rw [← hW9s]; exact nums_new W9 [y1, y2]
                    have hml := spsF_len (L.take j)
                    have hml2 : (spsF (L.take j)).length ≤ 512 * 8 := by rw [hml, List.length_take]; omega
                    have hO9 := (hO.below hb1 (Nat.le_refl _)).below hb2 (Nat.le_refl _)
                    have t1 := m2
                    have t2 := m4
                    rw [hy1] at t1
                    rw [hy2] at t2
                    have HLD := laid_any z (wr.heap.size + 1) 2 u4 _ [y1, y2] _ hO9 hn2 (by simp; omega) (by have := hb1.size; have := hb2.size; omega) (by rw [List.length_append]; simp; omega)
                    have HB9 : Hid (Below w.heap.size w (W9.alloc (.cells #[.int .i64 (y1 : Nat), .int .i64 (y2 : Nat)] 3))) := (hB.trans (hb1.mono hB.size)).trans (hb2.mono (Nat.le_trans hB.size hb1.size))
                    have HK9 : Hid (KB W7 (W9.alloc (.cells #[.int .i64 (y1 : Nat), .int .i64 (y2 : Nat)] 3))) := (hK.trans (KB.of_below hb1)).trans (KB.of_below hb2)
                    have hz9 : z ≤ (W9.alloc (.cells #[.int .i64 (y1 : Nat), .int .i64 (y2 : Nat)] 3)).heap.size := by have := hb1.size; have := hb2.size; omega
                    have HW9 : Hid (W9 = wr.alloc (.cells #[.int .i32 (y1 : Nat), .int .i32 (y2 : Nat)] 78)) := hW9
                    clear hy hO hy1 hy2 hW9 hb1 hb2 hn2 hml hO9 hB hK m1 m2 m3 m4 hc
                    go_wp2_with fail
                    rw [← HW9.out]
                    refine HLD.mono ?_
                    rintro e w10 ⟨v10, rfl, ho10, hb10, hk10⟩
                    have HO10 : Hid (Oc.OwnS w10 z v10 (H3 ++ spsF (L.take (j + 1)))) := by rw [HNK.out, spsF_snoc, HSF.out, ← List.append_assoc]; exact ho10
                    have HB10 : Hid (Below w.heap.size w w10) := HB9.out.trans (hb10.mono hzw)
                    have HK10 : Hid (KB W7 w10) := HK9.out.trans hk10
                    have hz10 : z ≤ w10.heap.size := Nat.le_trans hz9 hb10.size
                    clear HLD ho10 hb10 hk10 hz9 hW9s
                    go_wp2_with fail
                    go_roundw
                    case rel => exact ⟨j + 1, by omega, by go_num, HO10.out, HB10.out, HK10.out, hz10⟩
                    case measure => simp only [intOf]; omega
                · have hjm : L.take j = L := List.take_of_length_le (by rw [← HNL.out]; omega)
                  rw [hjm] at hO
                  have HO11 : Hid (Oc.OwnS wr z u4 (H2 ++ spF3 A B C (k + 1))) := by
                    rw [HS2.out, show spansF L = flat4 [nl] ++ spsF L by rw [HNL.out]; simp [spansF, spsF, flat4], ← List.append_assoc, ← List.append_assoc, ← HH3.out]
                    exact hO
                  have HB11 : Hid (Below w.heap.size w wr) := hB
                  have HK11 : Hid (KB W7 wr) := hK
                  clear hO hjm hB hK
                  go_wp2_with fail
                  go_roundw
                  case rel => exact ⟨k + 1, by omega, by go_num, HO11.out, HB11.out, HK11.out, hzr⟩
                  case measure => simp only [intOf]; omega
            · have hk3 : k = 3 := by omega
              rw [hk3] at hO
              have hF : H2 ++ spF3 A B C 3 = bodyF ws ms A B C := by
                rw [HH2.out, HH1.out, HNW.out]
                simp [spF3, bodyF]
              rw [hF] at hO
              have hbl : (bodyF ws ms A B C).length ≤ 2000000 := by
                rw [← hF, List.length_append]
                have la := spansF_len A
                have lb := spansF_len B
                have lc := spansF_len C
                have : (spF3 A B C 3).length ≤ 3 * 4100 := by simp [spF3]; omega
                omega
              have hbl0 : 4 ≤ (bodyF ws ms A B C).length := by
                unfold bodyF
                simp only [List.length_append]
                have : magicL.length = 4 := rfl
                omega
              obtain ⟨F, hFF⟩ : ∃ F, F = bodyF ws ms A B C := ⟨_, rfl⟩
              have HFILE : Hid (fileF ws ms A B C = F ++ Oc.be4 (Oc.crc F)) := by rw [hFF]; rfl
              rw [← hFF] at hO hbl hbl0
              obtain ⟨g2, cc2, rfl, q1, q2, q3, q4, hbs2⟩ := hO.form (by omega)
              have hS := Oc.sum_any (some ⟨g2, 0, none⟩) cc2 F wr (by omega) hbs2
              have hcl := Oc.crc_lt F
              have HBS : Hid (Oc.BS wr (some ⟨g2, 0, none⟩) F) := hbs2
              have HBB : Hid (Below w.heap.size w wr) := hB
              clear hO hF hFF hbs2 hB hK
              go_wp2_with fail
              refine hS.mono ?_
              rintro e w12 ⟨rfl, hb12⟩
              have hP := Oc.put_any (some ⟨g2, 0, none⟩) cc2 F (Oc.crc F) hcl w12 (by omega) q3 (HBS.out.below hb12)
              have HB12 : Hid (Below w.heap.size w w12) := HBB.out.trans (hb12.mono (by exact HBB.out.size))
              clear hS hb12
              go_wp2_with fail
              refine hP.mono ?_
              rintro e w13 ⟨v13, rfl, ho13, hb13⟩
              go_wp2_with fail
              go_ret
              exact ⟨v13, rfl, (by rw [HFILE.out]; exact OwnB.low ho13 HB12.out.size), HB12.out.trans (hb13.mono HB12.out.size)⟩
end Go.Proofs.YtplmmamebfpcjaaGreatDoor
end
section
/- The contract of strconv.Itoa, laid off the shelf at this dump. -/
namespace Go.Proofs.YtplmmamebfpcjaaGreatDoor
end Go.Proofs.YtplmmamebfpcjaaGreatDoor
namespace Go.Proofs
open Go.Shelf
def Tryz.laysM171_ren : Go.Shelf.Ren := ⟨fun | 171 => 70 | 243 => 93 | 246 => 105 | 283 => 109 | 284 => 110 | 285 => 111 | 286 => 112 | 129 => 116 | 317 => 115 | 318 => 117 | 319 => 118 | 320 => 119 | 337 => 120 | 338 => 121 | n => n, fun | 3 => 3 | 9 => 9 | 2 => 2 | 4 => 4 | 171 => 180 | 0 => 0 | 53 => 179 | 37 => 32 | 5 => 5 | 173 => 183 | 212 => 188 | 51 => 80 | 20 => 20 | 213 => 189 | 46 => 54 | 232 => 194 | 233 => 195 | n => n, fun | 17 => 1 | 18 => 3 | 19 => 4 | n => n⟩
theorem Tryz.laysM171 : Go.Proofs.LaysM.n171 Tryz.prog Tryz.laysM171_ren := {
  mixed := by kernel_rfl
  f129 := Tryz.func116.trans (congrArg some (by kernel_rfl))
  f171 := Tryz.func70.trans (congrArg some (by kernel_rfl))
  f243 := Tryz.func93.trans (congrArg some (by kernel_rfl))
  f246 := Tryz.func105.trans (congrArg some (by kernel_rfl))
  f283 := Tryz.func109.trans (congrArg some (by kernel_rfl))
  f284 := Tryz.func110.trans (congrArg some (by kernel_rfl))
  f285 := Tryz.func111.trans (congrArg some (by kernel_rfl))
  f286 := Tryz.func112.trans (congrArg some (by kernel_rfl))
  f317 := Tryz.func115.trans (congrArg some (by kernel_rfl))
  f318 := Tryz.func117.trans (congrArg some (by kernel_rfl))
  f319 := Tryz.func118.trans (congrArg some (by kernel_rfl))
  f320 := Tryz.func119.trans (congrArg some (by kernel_rfl))
  f337 := Tryz.func120.trans (congrArg some (by kernel_rfl))
  f338 := Tryz.func121.trans (congrArg some (by kernel_rfl))
  t0 := Tryz.underlying0
  a0 := Tryz.isAgg0
  z0 := Tryz.sizeOf0
  v0 := Tryz.zeroValue0
  t2 := Tryz.underlying2
  a2 := Tryz.isAgg2
  z2 := Tryz.sizeOf2
  v2 := Tryz.zeroValue2
  t3 := Tryz.underlying3
  a3 := Tryz.isAgg3
  z3 := Tryz.sizeOf3
  v3 := Tryz.zeroValue3
  t4 := Tryz.underlying4
  a4 := Tryz.isAgg4
  z4 := Tryz.sizeOf4
  v4 := Tryz.zeroValue4
  t5 := Tryz.underlying5
  a5 := Tryz.isAgg5
  z5 := Tryz.sizeOf5
  v5 := Tryz.zeroValue5
  t9 := Tryz.underlying9
  a9 := Tryz.isAgg9
  z9 := Tryz.sizeOf9
  v9 := Tryz.zeroValue9
  t20 := Tryz.underlying20
  a20 := Tryz.isAgg20
  z20 := Tryz.sizeOf20
  v20 := Tryz.zeroValue20
  t37 := Tryz.underlying32
  a37 := Tryz.isAgg32
  z37 := Tryz.sizeOf32
  v37 := Tryz.zeroValue32
  t46 := Tryz.underlying54
  a46 := Tryz.isAgg54
  z46 := Tryz.sizeOf54
  v46 := Tryz.zeroValue54
  t51 := Tryz.underlying80
  a51 := Tryz.isAgg80
  z51 := Tryz.sizeOf80
  v51 := Tryz.zeroValue80
  t53 := Tryz.underlying179
  a53 := Tryz.isAgg179
  z53 := Tryz.sizeOf179
  v53 := Tryz.zeroValue179
  t171 := Tryz.underlying180
  a171 := Tryz.isAgg180
  z171 := Tryz.sizeOf180
  v171 := Tryz.zeroValue180
  t173 := Tryz.underlying183
  a173 := Tryz.isAgg183
  z173 := Tryz.sizeOf183
  v173 := Tryz.zeroValue183
  t212 := Tryz.underlying188
  a212 := Tryz.isAgg188
  z212 := Tryz.sizeOf188
  v212 := Tryz.zeroValue188
  t213 := Tryz.underlying189
  a213 := Tryz.isAgg189
  z213 := Tryz.sizeOf189
  t232 := Tryz.underlying194
  a232 := Tryz.isAgg194
  z232 := Tryz.sizeOf194
  v232 := Tryz.zeroValue194
  t233 := Tryz.underlying195
  a233 := Tryz.isAgg195
  z233 := Tryz.sizeOf195
  v233 := Tryz.zeroValue195
  g17 := by kernel_rfl
  g18 := by kernel_rfl
  g19 := by kernel_rfl
  i0 := by kernel_rfl
  i2 := by kernel_rfl
  i3 := by kernel_rfl
  i4 := by kernel_rfl
  i5 := by kernel_rfl
  i9 := by kernel_rfl
  i20 := by kernel_rfl
  i37 := by kernel_rfl
  i46 := by kernel_rfl
  i51 := by kernel_rfl
  i53 := by kernel_rfl
  i171 := by kernel_rfl
  i173 := by kernel_rfl
  i212 := by kernel_rfl
  i232 := by kernel_rfl
  i233 := by kernel_rfl
  m17 := by kernel_rfl
  m18 := by kernel_rfl
  m19 := by kernel_rfl }
open Go.RowKit Go.Sort Go.Lib in
/-- strconv.Itoa: "Itoa is equivalent to FormatInt(int64(i), 10).": i's DECIMAL NUMERAL ('Lib.itoa': a '-' where i is negative, then the digits), FOR EVERY int. The world behind the call: the world before it, new blocks behind the heap (the library's 'var a [24]byte'), draws. (LAID: no walk: one application.) -/
theorem Tryz.strconv_Itoa (n : Int) (h0 : -9223372036854775808 ≤ n) (h1 : n ≤ 9223372036854775807) (w : World) (htab : Lib.TabIs Tryz.prog w "internal/strconv.uint64pow10" .u64 Lib.pow10Tab) :
    Calls Tryz.prog 70 #[.int .i64 n] w fun e w' => e = .returned (.string ⟨(Lib.itoa n).toArray⟩) ∧ ∃ k os, w' = grow (w.drewN k) os := Any.strconv_Itoa Tryz.laysM171 n h0 h1 w htab
end Go.Proofs
end
section
/- errors.Is of a refusal of file's and the number that it wraps; sameErr; Unwrap: their contracts. -/
namespace Go.Proofs.YtplmmamebfpcjaaGreatDoor
open Go.RowKit Go.Extern.Stop Go.Stop Go.Extern
set_option linter.unusedVariables false
set_option maxRecDepth 100000
theorem isTypeOf (v : Value) (w : World) : (Extern.ReflectliteType.typeOf #[.iface 63 v]).run Tryz.prog w = .ok (.iface 156 (.agg #[.pointer (some ⟨5, 63, none⟩)])) w := by kernel_rfl
theorem isComparable (w : World) : ((Extern.ReflectliteType.method fun t => do Rtype.noPackHeld "Comparable" t; (fun a => Value.bool a.comparable) <$> typeInfo t) #[.agg #[.pointer (some ⟨5, 63, none⟩)]]).run Tryz.prog w = .ok (.bool true) w := by kernel_rfl
theorem isMethodComparable (v : Value) (w : World) : (Go.method 326 156 v "Comparable").run Tryz.prog w = .ok (140, v) w := by kernel_rfl
theorem noIsW (v : Value) (xT : TypeId) (w : World) : (Instr.typeAssert (.iface 83 v) xT 158 true).run Tryz.prog w = .ok (.tuple #[.nilIface, .bool false]) w := run_typeAssert_lacksB Tryz.underlying158 (by kernel_rfl) (by kernel_rfl) v xT w
theorem hasUnwrapW (v : Value) (xT : TypeId) (w : World) : (Instr.typeAssert (.iface 83 v) xT 161 true).run Tryz.prog w = .ok (.tuple #[.iface 83 v, .bool true]) w := run_typeAssert_hasB Tryz.underlying161 (by kernel_rfl) v xT w
theorem methodUnwrap (v : Value) (w : World) : (Go.method 326 83 v "Unwrap").run Tryz.prog w = .ok (46, v) w := by kernel_rfl
theorem errComp : (Tryz.prog.info? 63).map (·.comparable) = some true := by kernel_rfl
theorem errEq (a b : Int) (w : World) : (binOp .eql 38 (.iface 63 (.int .i64 a)) (.iface 63 (.int .i64 b))).run Tryz.prog w = .ok (.bool (a == b)) w :=
  Lib.run_eql_iface_int w a b Tryz.underlying38 errComp Tryz.underlying63
theorem unwrap_any (w : World) (pb : Nat) (k : Int) (h : w.cell? ⟨pb, 1, none⟩ = some (.int .i64 k)) :
    Calls Tryz.prog 46 #[.pointer (some ⟨pb, 0, none⟩)] w fun e w' => e = .returned (.iface 63 (.int .i64 k)) ∧ w' = w := by
  go_enter Tryz.func46, Tryz.ntmps46
  go_wp2
  go_ret
  exact ⟨rfl, rfl⟩
theorem is_ref (w : World) (pb : Nat) (k : Int) (h : w.cell? ⟨pb, 1, none⟩ = some (.int .i64 k)) :
    Calls Tryz.prog 47 #[.iface 83 (.pointer (some ⟨pb, 0, none⟩)), .iface 63 (.int .i64 k)] w fun e w' => e = .returned (.bool true) ∧ w' = w := by
  have hT := @run_callFunc_extern Tryz.prog 71 _ Extern.ReflectliteType.typeOf Tryz.func71 (by kernel_rfl) (by kernel_rfl) (by kernel_rfl) (by kernel_rfl)
  have hC := @run_callFunc_extern Tryz.prog 140 _ (Extern.ReflectliteType.method fun t => do Rtype.noPackHeld "Comparable" t; pure (.bool (← typeInfo t).comparable)) Tryz.func140 (by kernel_rfl) (by kernel_rfl) (by kernel_rfl) (by kernel_rfl)
  have tT := isTypeOf
  have cT := isComparable
  have mR := isMethodComparable
  have nW := noIsW
  have uW := hasUnwrapW
  have mU := methodUnwrap
  have heq := errEq k k
  have hty := run_eql_iface_types (P := Tryz.prog) 83 63 (.pointer (some ⟨pb, 0, none⟩)) (.int .i64 k) Tryz.underlying38 (by decide) w
  go_enter Tryz.func47, Tryz.ntmps47
  go_wp2
  refine wp_loop_rounds 2 ?_
  rw [rounds_succ]
  go_wp2
  rw [rounds_succ]
  go_wp2
  go_ret
  exact ⟨by simp, rfl⟩
end Go.Proofs.YtplmmamebfpcjaaGreatDoor
end
section
/- Errno.Error, Refusal.Error: their contracts. -/
namespace Go.Proofs.YtplmmamebfpcjaaGreatDoor
open Go.RowKit Go.Sort Go.Joins
set_option linter.unusedVariables false
set_option maxRecDepth 100000
theorem own_one (W : World) (m : Nat) : Oc.OwnS (W.alloc (.cells #[.int .u8 (48 + (m : Int) % 10)] 5 (0, 0))) W.heap.size (.slice (some ⟨W.heap.size, 0, none⟩) 1 1) [UInt8.ofNat (48 + m % 10)] := by
  have hc : ((UInt8.ofNat (48 + m % 10)).toNat : Int) = 48 + (m : Int) % 10 := by
    rw [UInt8.toNat_ofNat']
    omega
  refine ⟨rfl, .inr ⟨W.heap.size, 1, #[.int .u8 (48 + (m : Int) % 10)], rfl, Nat.le_refl _, (by show (W.heap.push _)[W.heap.size]? = some _; simp), Nat.le_refl _, by decide, rfl, ?_⟩⟩
  show [_] = [Value.int .u8 _]
  rw [hc]
set_option maxHeartbeats 4000000 in
theorem errno_text (k : Nat) (h1 : k ≤ 9223372036854775807) (w : World) :
    Calls Tryz.prog 69 #[.int .i64 (k : Nat)] w fun e w' => ∃ s : ByteArray, e = .returned (.string s) ∧ Below w.heap.size w w' ∧ s.size ≤ 100 := by
  go_enter Tryz.func69, Tryz.ntmps69
  by_cases c0 : k = 0
  · subst c0
    go_wp2
    go_ret
    exact ⟨_, rfl, Below.refl _ _, by decide⟩
  by_cases c1 : k = 1
  · subst c1
    go_wp2
    go_ret
    exact ⟨_, rfl, Below.refl _ _, by decide⟩
  by_cases c2 : k = 10
  · subst c2
    go_wp2
    go_ret
    exact ⟨_, rfl, Below.refl _ _, by decide⟩
  by_cases c3 : k = 40
  · subst c3
    go_wp2
    go_ret
    exact ⟨_, rfl, Below.refl _ _, by decide⟩
  have d0 : ¬ ((k : Int) = 0) := by omega
  have d1 : ¬ ((k : Int) = 1) := by omega
  have d2 : ¬ ((k : Int) = 10) := by omega
  have d3 : ¬ ((k : Int) = 40) := by omega
  have e0 : ((k : Int) == 0) = false := by simp; omega
  have e1 : ((k : Int) == 1) = false := by simp; omega
  have e2 : ((k : Int) == 10) = false := by simp; omega
  have e3 : ((k : Int) == 40) = false := by simp; omega
  have e4 : decide ((k : Int) < 0) = false := by simp
  go_wp2_with fail
  try simp only [e0, e1, e2, e3, e4]
  clear e0 e1 e2 e3 e4
  go_loopw [3, 4] (fun n u wr => ∃ (m : Nat) (l : List UInt8), n = .int .i64 (m : Nat) ∧ m * 10 ^ l.length ≤ 9223372036854775807 ∧ ((l = [] ∧ u = .slice none 0 0 ∧ wr = w) ∨ (0 < l.length ∧ l.length ≤ 20 ∧ Oc.OwnS wr w.heap.size u l)) ∧ Below w.heap.size w wr) (fun n u _ => (intOf n).toNat + (match u with | .slice none _ _ => 1 | _ => 0))
  case atStart => exact ⟨k, [], rfl, by simpa using h1, .inl ⟨rfl, rfl, rfl⟩, Below.refl _ _⟩
  case round =>
    obtain ⟨m, l, rfl, hm, hl, hB⟩ := hrel
    have hm10 : m / 10 ≤ m := Nat.div_le_self _ _
    have hmb : m ≤ 9223372036854775807 := Nat.le_trans (Nat.le_mul_of_pos_right _ (Nat.pow_pos (by decide))) hm
    have hdv : ((m : Int) / 10) = ((m / 10 : Nat) : Int) := by omega
    rcases hl with ⟨rfl, rfl, rfl⟩ | ⟨hl0, hl1, hO⟩
    · by_cases hm0 : m = 0
      · subst hm0
        have hone := own_one wr 0
        have hbl := box_below wr (.cells #[.int .u8 (48 + ((0 : Nat) : Int) % 10)] 5 (0, 0))
        have e0 : (48 + ((0 : Nat) : Int) % 10) = 48 := rfl
        rw [e0] at hone hbl
        clear e0 hdv hm10
        go_wp2_with fail
        go_roundw
        case rel => exact ⟨0, _, rfl, by simp, .inr ⟨by decide, by decide, hone⟩, hbl⟩
        case measure => simp only [intOf]; decide
      · have hone := own_one wr m
        have hbl := box_below wr (.cells #[.int .u8 (48 + (m : Int) % 10)] 5 (0, 0))
        have hm1 : (m : Int) > 0 := by omega
        have HD := Lib.hid hdv
        clear hdv hm10
        go_wp2_with fail
        go_roundw
        case rel => exact ⟨m / 10, _, by rw [← HD.out], by simp only [List.length_cons, List.length_nil]; omega, .inr ⟨by simp, by simp, hone⟩, hbl⟩
        case measure => simp only [intOf]; go_num
    · obtain ⟨g, c, rfl, q1, q2, q3, q4, hbs⟩ := hO.form hl0
      have hone := own_one wr m
      have hbl := box_below wr (.cells #[.int .u8 (48 + (m : Int) % 10)] 5 (0, 0))
      by_cases hm0 : (m : Int) > 0
      · have hm1 : 0 < m := by omega
        have hl2 : l.length < 19 := by
          rcases Nat.lt_or_ge l.length 19 with h | h
          · exact h
          · have := Nat.pow_le_pow_right (show 0 < 10 by decide) h
            have h3 : 1 * 10 ^ 19 ≤ m * 10 ^ l.length := Nat.mul_le_mul hm1 this
            omega
        obtain ⟨v2, w2, hr2, ho2, hb2⟩ := Oc.run_own_bytes _ wr.heap.size _ _ l _ c hone (hbs.below hbl) (by intro h; cases h) hbl.size (by simp only [List.length_cons, List.length_nil]; omega)
        have ho3 := OwnB.low ho2 hB.size
        have hb3 := hB.trans ((hbl.trans hb2).mono hB.size)
        have hp : m / 10 * 10 ^ (l.length + 1) ≤ 9223372036854775807 := by
          rw [Nat.pow_succ, Nat.mul_comm (10 ^ l.length) 10, ← Nat.mul_assoc]
          exact Nat.le_trans (Nat.mul_le_mul_right _ (Nat.div_mul_le_self m 10)) hm
        have hv2 := ho2.form (by simp)
        obtain ⟨g2, c2, rfl, _⟩ := hv2
        have HD := Lib.hid hdv
        clear hone hO hbs ho2 hb2 hdv hm10
        go_wp2_with (at_builtin; refine wpList_append_run rfl (.tmp 28) (.tmp 29) 32 32 rfl _ _ rfl rfl _ w2 hr2 ?_; clear hr2)
        go_roundw
        case rel => exact ⟨m / 10, _, by rw [← HD.out], by simpa using hp, .inr ⟨by simp, by simp; omega, ho3⟩, hb3⟩
        case measure => simp only [intOf]; go_num
      · have hcv := run_convert_bytes_back (P := Tryz.prog) wr 32 9 5 ⟨g, 0, none⟩ c l Tryz.underlying32 Tryz.underlying5 Tryz.underlying9 (fun j hj => by
          have := hbs.cells j (.int .u8 (l[j].toNat : Int)) (by rw [Oc.cellsOf_get l j hj]; simp [List.getD, hj])
          exact this)
        go_wp2_with fail
        go_ret
        refine ⟨_, rfl, hB, ?_⟩
        rw [ByteArray.size_append]
        show 8 + l.toArray.size ≤ 100
        rw [List.size_toArray]
        omega
end Go.Proofs.YtplmmamebfpcjaaGreatDoor
end
section
/- What the listed package-level variables hold, off the row's condition (five are listed: two of spans, three of the library). -/
namespace Go.Proofs.YtplmmamebfpcjaaGreatDoor
open Go.ChangeShapes Go.WideShapes Go.ChangeAt Go.WideMaps Go.WideElems Go.RowKit
theorem own : ownKnob Tryz.prog.godebug = none := by kernel_rfl
theorem laidOut : laidOutB Tryz.prog = true := by kernel_rfl
theorem gRunes : Tryz.prog.globalNamed "tessera/spans.runes" = some 2 := by kernel_rfl
theorem gNothing : Tryz.prog.globalNamed "tessera/spans.nothing" = some 0 := by kernel_rfl
theorem gPow : Tryz.prog.globalNamed "internal/strconv.uint64pow10" = some 1 := by kernel_rfl
theorem tRunes : (Tryz.prog.globals[2]?).map (·.type) = some 192 := by kernel_rfl
theorem tNothing : (Tryz.prog.globals[0]?).map (·.type) = some 78 := by kernel_rfl
theorem tPow : (Tryz.prog.globals[1]?).map (·.type) = some 188 := by kernel_rfl
/-- The condition's list. -/
abbrev laids : List (String × DataW Unit) := [("math/bits.deBruijn32tab", Rows.laid_math_bits_deBruijn32tab), ("math/bits.deBruijn64tab", Rows.laid_math_bits_deBruijn64tab), ("internal/strconv.uint64pow10", Rows.laid_internal_strconv_uint64pow10), ("tessera/spans.runes", Rows.laid_tessera_spans_runes), ("tessera/spans.nothing", Rows.laid_tessera_spans_nothing)]
/-- The door's own heap meets the condition. -/
theorem door_met (os : Os) (args : Array Value) : laidMetH Tryz.prog laids ((World.doorLaid Tryz.prog 400 os).forCall (fun _ _ => 0) ⟨#[], args, []⟩).memory :=
  laidMetH_of_parts3 (fuel := 8) (laidMet_of_run' 8 (by kernel_rfl) (by kernel_rfl)) (by kernel_rfl) (by kernel_rfl)
theorem cells26 : Tryz.prog.cellsOf 78 = 2 := by kernel_rfl
theorem cellsOf21 : Tryz.prog.cellsOf 21 = 1 := by kernel_rfl
theorem und48 : Tryz.prog.underlying 192 = some (.array 2 78) := by kernel_rfl
theorem undPow : Tryz.prog.underlying 188 = some (.array 20 179) := by kernel_rfl
/-- The powers of ten, as the library's contract asks for them. -/
abbrev PT (w : World) : Prop := Lib.TabIs Tryz.prog w "internal/strconv.uint64pow10" .u64 [1, 10, 100, 1000, 10000, 100000, 1000000, 10000000, 100000000, 1000000000, 10000000000, 100000000000, 1000000000000, 10000000000000, 100000000000000, 1000000000000000, 10000000000000000, 100000000000000000, 1000000000000000000, 10000000000000000000]
set_option maxRecDepth 100000 in
/-- A span's two cells, off its datum. -/
theorem sp_trod {H : Type} {enc : TypeId × Value → H} {w : World} {base : Nat} {sp : Nat → Bool} {held : Bool} {fuel : Nat} {cs : List Value} {lo hi : Int} {p : List MemPlace}
    (h : DataW.trod enc Tryz.prog w base sp held fuel 78 cs = some (.agg [.lit (.int .i32 lo), .lit (.int .i32 hi)], p)) : cs = [.int .i32 lo, .int .i32 hi] := by
  obtain ⟨xs, n, rfl, hx, hl, hn, hel⟩ := DataW.trod_struct und26 h
  rw [cells26] at hl
  obtain ⟨c0, c1, rfl⟩ : ∃ c0 c1, cs = [c0, c1] := by
    match cs, hl with
    | [c0, c1], _ => exact ⟨c0, c1, rfl⟩
  have h0 := hel 0 fLo rfl
  have h1 := hel 1 fHi rfl
  simp only [Prod.mk.injEq, DataW.agg.injEq] at hx
  match xs, hn, hx, h0, h1 with
  | [x0, x1], _, hx, h0, h1 =>
    simp only [fLo, fHi, cellsOf21, List.drop_zero, List.take_succ_cons, List.take_zero, List.drop_succ_cons, List.getElem?_cons_zero, List.getElem?_cons_succ] at h0 h1
    obtain ⟨k0, e0, f0, _⟩ := DataW.trod_int Tryz.underlying21 h0
    obtain ⟨k1, e1, f1, _⟩ := DataW.trod_int Tryz.underlying21 h1
    subst f0; subst f1
    simp at hx e0 e1
    rw [e0, e1, ← hx.1.1, ← hx.1.2]
set_option maxRecDepth 100000 in
theorem of_laid5 {W : World} (h : laidMetH Tryz.prog laids W) : GL W ∧ PT W := by
  rw [MakeChecks.laidMetH_plain _ _ _ (by kernel_rfl)] at h
  obtain ⟨ps, ⟨_, _, _, _, _, _, _, _, _, _, ⟨_, _, _, _, _, _, _, _, _, _, ⟨g2, t2, ⟨cs2⟩, f2, p2, q2, hg2, ht2, hv2, hd2, ⟨g0, t0, cs0, f0, p0, q0, hg0, ht0, hv0, hd0, ⟨g1, t1, cs1, f1, p1, q1, hg1, ht1, hv1, hd1, _, _⟩, _⟩, _⟩, _⟩, _⟩, _, _⟩ := h
  obtain rfl := Option.some.inj (gPow.symm.trans hg2)
  obtain rfl := Option.some.inj (tPow.symm.trans ht2)
  have hP : PT W := by
    unfold PT Lib.TabIs
    rw [hv2]
    exact congrArg (fun l => some (List.toArray l)) (Lib.cells_of_tab (zs := [1, 10, 100, 1000, 10000, 100000, 1000000, 10000000, 100000000, 1000000000, 10000000000, 100000000000, 1000000000000, 10000000000000, 100000000000000, 1000000000000000, 10000000000000000, 100000000000000000, 1000000000000000000, 10000000000000000000]) undPow Tryz.underlying179 (by kernel_rfl) (by kernel_rfl) hd2)
  refine ⟨?_, hP⟩
  obtain rfl := Option.some.inj (gRunes.symm.trans hg0)
  obtain rfl := Option.some.inj (gNothing.symm.trans hg1)
  obtain rfl := Option.some.inj (tRunes.symm.trans ht0)
  obtain rfl := Option.some.inj (tNothing.symm.trans ht1)
  have e1 := sp_trod hd1
  have c1 := World.var?_cell hg1 hv1
  obtain ⟨l1⟩ := cs1
  simp only at e1
  subst e1
  obtain ⟨xs, m1, rfl, hx1, hlen, hn3, hel⟩ := DataW.trod_array und48 hd0
  have h0 := hel 0 (by decide)
  have h1 := hel 1 (by decide)
  have c0 := World.var?_cell hg0 hv0
  obtain ⟨l0⟩ := cs0
  simp only [Prod.mk.injEq, DataW.agg.injEq, Rows.laid_tessera_spans_runes] at hx1
  simp only [cells26] at h0 h1
  match xs, hn3, hx1, h0, h1 with
  | [⟨d0, p0⟩, ⟨d1, p1⟩], _, hx1, h0, h1 =>
    simp only [List.map_cons, List.map_nil, List.cons.injEq, and_true] at hx1
    obtain ⟨⟨rfl, rfl⟩, -⟩ := hx1
    simp only [List.getElem?_cons_zero, List.getElem?_cons_succ, Nat.zero_mul, Nat.one_mul, List.drop_zero] at h0 h1
    have e2 := sp_trod h0
    have e3 := sp_trod h1
    rw [show Tryz.prog.cellsOf 192 = 4 by kernel_rfl] at hlen
    simp only at hlen
    match l0, hlen, e2, e3, c0 with
    | [v0, v1, v2, v3], _, e2, e3, c0 =>
      simp at e2 e3
      obtain ⟨rfl, rfl⟩ := e2
      obtain ⟨rfl, rfl⟩ := e3
      exact ⟨⟨c1 0, c1 1⟩, ⟨c0 0, c0 1⟩, ⟨c0 2, c0 3⟩⟩
theorem of_laid {W : World} (h : laidMetH Tryz.prog laids W) : GL W := (of_laid5 h).1
end Go.Proofs.YtplmmamebfpcjaaGreatDoor
end
section
/- Refusal.Error: its contract. -/
namespace Go.Proofs.YtplmmamebfpcjaaGreatDoor
open Go.RowKit Go.Sort Go.Joins
set_option linter.unusedVariables false
set_option maxRecDepth 100000
theorem PT.stays {w w' : World} (h : PT w) (hb : Below w.heap.size w w') : PT w' := tab_stays gPow h hb (Nat.le_refl _)
theorem Rf.c0 {w : World} {N : Nat} {e : Er} (h : Rf w N e) : w.cell? ⟨N, 0, none⟩ = some (.int .i64 (e.1 : Nat)) := (cell_of_block h 0).trans rfl
theorem Rf.c1 {w : World} {N : Nat} {e : Er} (h : Rf w N e) : w.cell? ⟨N, 1, none⟩ = some (.int .i64 (e.2 : Nat)) := (cell_of_block h 1).trans rfl
set_option maxHeartbeats 4000000 in
theorem error_any (w : World) (N : Nat) (r : Er) (hR : Rf w N r) (h1 : r.1 ≤ 9223372036854775807) (h2 : r.2 ≤ 9223372036854775807) (hP : PT w) :
    Calls Tryz.prog 45 #[.pointer (some ⟨N, 0, none⟩)] w fun e w' => ∃ v, e = .returned v ∧ Below w.heap.size w w' ∧ ∃ s : ByteArray, v = .string s ∧ s.size ≠ 0 := by
  have HE := fun wx (hb : Below w.heap.size w wx) => (errno_text r.2 h2 wx).mono (R' := fun e w' => ∃ v, e = .returned v ∧ Below wx.heap.size wx w' ∧ ∃ s : ByteArray, v = .string s ∧ s.size ≤ 100) (by rintro e w' ⟨s, q1, q2, q3⟩; exact ⟨_, q1, q2, s, rfl, q3⟩)
  have HI := fun wx (hb : Below w.heap.size w wx) => (Tryz.strconv_Itoa (r.1 : Nat) (by omega) (by omega) wx (hP.stays hb)).mono (R' := fun e w' => ∃ v, e = .returned v ∧ Below wx.heap.size wx w' ∧ ∃ s : ByteArray, v = .string s ∧ s.size ≤ 100) (by rintro e w' ⟨q1, k, os, q2⟩; exact ⟨_, q1, by rw [q2]; exact Lib.below_grow _ wx (Nat.le_refl _) k os, _, rfl, by have := Lib.itoa_length_le ((r.1 : Nat) : Int) (by omega) (by omega); show (Lib.itoa _).toArray.size ≤ 100; rw [List.size_toArray]; omega⟩)
  go_enter Tryz.func45, Tryz.ntmps45
  go_wp2_with fail
  refine wp_region_mono 13 [3, 4, 5, 6, 7, 8, 9, 10, 11, 12, 13, 14, 15] [qR (.pointer (some ⟨N, 0, none⟩)),
      qR (.pointer (some ⟨N, 0, none⟩)),
      qR (.pointer (some ⟨N, 1, none⟩)),
      qR (.int .i64 (r.2 : Nat)),
      (fun u _ => ∃ s : ByteArray, u = .string s ∧ s.size ≤ 100),
      (fun u _ => ∃ s : ByteArray, u = .string s ∧ s.size ≠ 0 ∧ s.size ≤ 200),
      (fun u _ => ∃ s : ByteArray, u = .string s ∧ s.size ≠ 0 ∧ s.size ≤ 300),
      qR (.pointer (some ⟨N, 0, none⟩)),
      qR (.pointer (some ⟨N, 0, none⟩)),
      qR (.pointer (some ⟨N, 0, none⟩)),
      qR (.int .i64 (r.1 : Nat)),
      (fun u _ => ∃ s : ByteArray, u = .string s ∧ s.size ≤ 100),
      (fun u _ => ∃ s : ByteArray, u = .string s ∧ s.size ≠ 0 ∧ s.size ≤ 400)] (by kernel_rfl) (by kernel_rfl) rfl rfl ?stab ?steps ?fin
  case stab =>
    intro φ hφ
    simp only [List.mem_cons, List.not_mem_nil, or_false] at hφ
    rcases hφ with rfl | rfl | rfl | rfl | rfl | rfl | rfl | rfl | rfl | rfl | rfl | rfl | rfl
    · exact fun _ _ _ _ h => h
    · exact fun _ _ _ _ h => h
    · exact fun _ _ _ _ h => h
    · exact fun _ _ _ _ h => h
    · exact fun _ _ _ _ h => h
    · exact fun _ _ _ _ h => h
    · exact fun _ _ _ _ h => h
    · exact fun _ _ _ _ h => h
    · exact fun _ _ _ _ h => h
    · exact fun _ _ _ _ h => h
    · exact fun _ _ _ _ h => h
    · exact fun _ _ _ _ h => h
    · exact fun _ _ _ _ h => h
  case steps =>
    have hBx : ∀ wx, Below w.drew.heap.size w.drew wx → Below w.heap.size w wx := fun wx hb => ⟨hb.os, hb.tape, hb.output, hb.size, hb.block⟩
    refine ⟨?_, ?_, ?_, ?_, ?_, ?_, ?_, ?_, ?_, ?_, ?_, ?_, ?_, trivial⟩
    · intro a' he wx hb hd
      have e0 : a'.eval (.tmp 0) = .pointer (some ⟨N, 0, none⟩) := he.get rfl
      exact mStep_read rfl (by simp [execOp, e0]) rfl
    · intro a' he wx hb hd
      have e0 : a'.eval (.tmp 3) = .pointer (some ⟨N, 0, none⟩) := hd 0 rfl _ _ rfl rfl
      refine mStep_read rfl ?_ rfl
      simp only [execOp, e0]
      go_simp
    · intro a' he wx hb hd
      have e0 : a'.eval (.tmp 4) = .pointer (some ⟨N, 0, none⟩) := hd 1 rfl _ _ rfl rfl
      refine mStep_read rfl ?_ rfl
      simp only [execOp, e0]
      go_simp
    · intro a' he wx hb hd
      have e0 : a'.eval (.tmp 5) = .pointer (some ⟨N, 1, none⟩) := hd 2 rfl _ _ rfl rfl
      have c := (hR.below (hBx wx hb) hR.lt).c1
      refine mStep_read rfl ?_ rfl
      simp only [execOp, e0]
      go_simp
    · intro a' he wx hb hd
      have e0 : a'.eval (.tmp 6) = .int .i64 (r.2 : Nat) := hd 3 rfl _ _ rfl rfl
      exact mStep_call rfl (by simp [execOp, e0, resolve]; rfl) (HE wx (hBx wx hb))
    · intro a' he wx hb hd
      have e0 := hd 4 rfl _ _ rfl rfl
      obtain ⟨s, e0, hz⟩ := e0
      refine mStep_read rfl (v := .string (⟨#[110, 111, 32, 109, 111, 100, 101, 108, 39, 115, 32, 102, 105, 108, 101, 58, 32]⟩ ++ s)) ?_ ⟨_, rfl, ?_⟩
      · simp only [execOp, e0]
        go_simp
        omega
      · rw [ByteArray.size_append]
        show 17 + s.size ≠ 0 ∧ 17 + s.size ≤ 200
        omega
    · intro a' he wx hb hd
      have e0 := hd 5 rfl _ _ rfl rfl
      obtain ⟨s, e0, hs, hz⟩ := e0
      refine mStep_read rfl (v := .string (s ++ ⟨#[44, 32, 97, 116, 32, 98, 121, 116, 101, 32]⟩)) ?_ ⟨_, rfl, ?_⟩
      · simp only [execOp, e0]
        go_simp
        omega
      · rw [ByteArray.size_append]
        show s.size + 10 ≠ 0 ∧ s.size + 10 ≤ 300
        omega
    · intro a' he wx hb hd
      have e0 : a'.eval (.tmp 0) = .pointer (some ⟨N, 0, none⟩) := he.get rfl
      exact mStep_read rfl (by simp [execOp, e0]) rfl
    · intro a' he wx hb hd
      have e0 : a'.eval (.tmp 10) = .pointer (some ⟨N, 0, none⟩) := hd 7 rfl _ _ rfl rfl
      refine mStep_read rfl ?_ rfl
      simp only [execOp, e0]
      go_simp
    · intro a' he wx hb hd
      have e0 : a'.eval (.tmp 11) = .pointer (some ⟨N, 0, none⟩) := hd 8 rfl _ _ rfl rfl
      refine mStep_read rfl ?_ rfl
      simp only [execOp, e0]
      go_simp
    · intro a' he wx hb hd
      have e0 : a'.eval (.tmp 12) = .pointer (some ⟨N, 0, none⟩) := hd 9 rfl _ _ rfl rfl
      have c := (hR.below (hBx wx hb) hR.lt).c0
      refine mStep_read rfl ?_ rfl
      simp only [execOp, e0]
      go_simp
    · intro a' he wx hb hd
      have e0 : a'.eval (.tmp 13) = .int .i64 (r.1 : Nat) := hd 10 rfl _ _ rfl rfl
      exact mStep_call rfl (by simp [execOp, e0, resolve]; rfl) (HI wx (hBx wx hb))
    · intro a' he wx hb hd
      have e0 := hd 6 rfl _ _ rfl rfl
      have e1 := hd 11 rfl _ _ rfl rfl
      obtain ⟨s, e0, hs, hz⟩ := e0
      obtain ⟨t, e1, hy⟩ := e1
      refine mStep_read rfl (v := .string (s ++ t)) ?_ ⟨_, rfl, ?_⟩
      · simp only [execOp, e0, e1]
        go_simp
        omega
      · rw [ByteArray.size_append]
        omega
  case fin =>
    rintro wx hb _ rfl _ rfl _ rfl _ rfl u7 p7 u8 p8 u9 p9 _ rfl _ rfl _ rfl _ rfl u14 p14 u15 p15
    simp only [finV, Act.put, List.setIfInBounds_toArray, List.set_cons_succ, List.set_cons_zero, List.drop_succ_cons, List.drop_zero]
    have hbd : Below w.heap.size w wx := ⟨hb.os, hb.tape, hb.output, hb.size, hb.block⟩
    obtain ⟨s, rfl, hs, hz⟩ := p15
    clear p7 p8 p9 p14 HE HI
    go_wp2_with fail
    go_ret
    exact ⟨_, rfl, hbd, _, rfl, hs⟩
end Go.Proofs.YtplmmamebfpcjaaGreatDoor
end
