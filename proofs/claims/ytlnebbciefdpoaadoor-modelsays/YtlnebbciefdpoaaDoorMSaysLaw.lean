/- ModelSays: the walk. -/
import Derived.Test.YtlnebbciefdpoaaDoorMKnown
import Derived.Test.YtlnebbciefdpoaaDoorMRefMerge
import Derived.Test.YtlnebbciefdpoaaDoorRMono
namespace Go.Proofs.YtlnebbciefdpoaaDoor
open Go.RowKit Go.Sort Go.Joins
set_option linter.unusedVariables false
set_option maxRecDepth 100000 in
set_option maxHeartbeats 4000000 in
theorem says_walk (aw am a b c : Option Addr) (cw cm ca cb cc : Nat) (ws : List ByteArray) (ms : List Mg) (A B C : List Sp) (id l r : Int) (w : World) (hwf : MWf ms) (hid : W64 id) (hl : W64 l) (hr : W64 r) (hn : ws.length ≤ 8796093022208 ∧ ms.length ≤ 5864062014805 ∧ A.length ≤ 17592186044416 ∧ B.length ≤ 17592186044416 ∧ C.length ≤ 17592186044416) (hW : WSP w aw ws) (hM : MSP w am ms) (hA : Lst w a ca A) (hB : Lst w b cb B) (hC : Lst w c cc C) (hG : GL w) :
    Calls Tryd.prog 5 #[.agg #[.slice aw ws.length cw, .slice am ms.length cm, .slice a A.length ca, .slice b B.length cb, .slice c C.length cc], .int .i64 id, .int .i64 l, .int .i64 r] w fun e w' => e = .returned (.bool true) ∧ Below w.heap.size w w' := by
  have hD := DBox.new w (.slice aw ws.length cw) (.slice am ms.length cm) (.slice a A.length ca) (.slice b B.length cb) (.slice c C.length cc)
  have hb0 := box_below w (.cells #[.slice aw ws.length cw, .slice am ms.length cm, .slice a A.length ca, .slice b B.length cb, .slice c C.length cc] 42)
  have HW : Hid (WSP w aw ws) := hW
  have HM : Hid (MSP w am ms) := hM
  have HA : Hid (Lst w a ca A) := hA
  have HB : Hid (Lst w b cb B) := hB
  have HC : Hid (Lst w c cc C) := hC
  have HG : Hid (GL w) := hG
  have HN : Hid (ws.length ≤ 8796093022208 ∧ ms.length ≤ 5864062014805 ∧ A.length ≤ 17592186044416 ∧ B.length ≤ 17592186044416 ∧ C.length ≤ 17592186044416) := hn
  clear hW hM hA hB hC hG
  have x0 := hD.c0
  have x1 := hD.c1
  have x2 := hD.c2
  have x3 := hD.c3
  have x4 := hD.c4
  go_enter Tryd.func5, Tryd.ntmps5
  go_wp2_with fail
  obtain ⟨Y, hY⟩ : ∃ Y, Y = w.alloc (.cells #[.slice aw ws.length cw, .slice am ms.length cm, .slice a A.length ca, .slice b B.length cb, .slice c C.length cc] 42) := ⟨_, rfl⟩
  rw [← hY] at hb0 hD ⊢
  clear hY x0 x1 x2 x3 x4
  obtain ⟨z, hz⟩ : ∃ z, z = w.heap.size := ⟨_, rfl⟩
  have HZ : Hid (z = w.heap.size) := hz
  rw [← hz] at hD ⊢
  clear hz
  refine (keepOf_any aw am a b c cw cm ca cb cc ws ms A B C Y hwf (by omega) (HW.out.below hb0) (HM.out.below hb0) (HA.out.below hb0) (HB.out.below hb0) (HC.out.below hb0) (HG.out.below hb0)).mono ?_
  rintro e w1 ⟨p, rfl, hp1, hp2, hb1⟩
  have B1 := hb0.trans (hb1.mono hb0.size)
  have hD1 := hD.below hb1 hD.lt
  cases hU : upB ws ms A B C with
  | false =>
    obtain rfl := hp2 hU

    have hG1 := HG.out.below B1
    clear hp1 hp2 hU hb1 hb0 hD hD1
    go_wp2_with fail
    refine (known_any w1 hG1).mono ?_
    rintro e w2 ⟨rfl, hb2⟩
    go_wp2_with fail
    go_ret
    exact ⟨rfl, B1.trans (hb2.mono B1.size)⟩
  | true =>
    obtain ⟨g, rfl, hMd⟩ := hp1 hU
    have hK := upB_ok hU
    have hf := upB_few hU
    have HK0 : Hid (MOk ws ms A B C) := hK
    have hw3 : ws.length ≤ 300 := by rw [hK.nm]; exact hf
    have HMd : Hid (ModelAt w1 Y.heap.size g ws ms A B C) := hMd

    clear hp1 hp2 hU hb1 hb0 hD hK hMd hf hn
    go_wp2_with fail
    have HWd := mword_any g _ ws ms A B C id w1 (by omega) HMd.out
    obtain ⟨s, hs⟩ : ∃ s, s = (wordM ws id).getD ⟨#[]⟩ := ⟨_, rfl⟩
    obtain ⟨sb, hsb⟩ : ∃ sb, sb = (wordM ws id).isSome := ⟨_, rfl⟩
    unfold wdV at HWd
    rw [← hs, ← hsb] at HWd
    refine HWd.mono ?_
    rintro e w2 ⟨rfl, hb2⟩
    have B2 := B1.trans (hb2.mono B1.size)
    have hD2 := hD1.below hb2 hD1.lt
    have hM2 := HMd.out.below hb2
    have x0 := hD2.c0
    have x1 := hD2.c1
    have x2 := hD2.c2
    have x3 := hD2.c3
    have x4 := hD2.c4
    have HWd := refWord_any aw am a b c cw ms.length cm A.length ca B.length cb C.length cc ws id hid w2 (by omega) (HW.out.below B2)
    unfold wdV at HWd
    rw [← hs, ← hsb] at HWd
    have HM2 : Hid (ModelAt w2 Y.heap.size g ws ms A B C) := hM2
    clear hs hsb hb2 HMd hD1 B1 hM2
    go_wp2_with fail
    refine HWd.mono ?_
    rintro e w3 ⟨rfl, hb3⟩
    have B3 := B2.trans (hb3.mono B2.size)
    have hD3 := hD2.below hb3 hD2.lt
    have HMg := merge_any g _ ws ms A B C l r w3 hl hr (HM2.out.below hb3)
    obtain ⟨rk, hrk⟩ : ∃ rk, rk = (((mergeM ms l r).map fun p => (p.1 : Int)).getD 0) := ⟨_, rfl⟩
    obtain ⟨ri, hri⟩ : ∃ ri, ri = ((mergeM ms l r).map (·.2)).getD 0 := ⟨_, rfl⟩
    obtain ⟨rb, hrb⟩ : ∃ rb, rb = (mergeM ms l r).isSome := ⟨_, rfl⟩
    unfold mrV at HMg
    rw [← hrk, ← hri, ← hrb] at HMg
    have HM3 : Hid (ModelAt w3 Y.heap.size g ws ms A B C) := HM2.out.below hb3
    clear x0 x1 x2 x3 x4 HWd hb3 hD2 B2 HM2
    go_wp2_with fail
    refine HMg.mono ?_
    rintro e w4 ⟨rfl, hb4⟩
    have B4 := B3.trans (hb4.mono B3.size)
    have hD4 := hD3.below hb4 hD3.lt
    have HM4 : Hid (ModelAt w4 Y.heap.size g ws ms A B C) := HM3.out.below hb4
    have x0 := hD4.c0
    have x1 := hD4.c1
    have x2 := hD4.c2
    have x3 := hD4.c3
    have x4 := hD4.c4
    have HMg := refMerge_any aw am a b c ws.length cw cm A.length ca B.length cb C.length cc ms l r w4 (by have := HN.out; omega) (HM.out.below B4)
    unfold mrV at HMg
    rw [← hrk, ← hri, ← hrb] at HMg
    clear hrk hri hrb hb4 hD3 HM3 B3
    go_wp2_with fail
    refine HMg.mono ?_
    rintro e w5 ⟨rfl, hb5⟩
    have B5 := B4.trans (hb5.mono B4.size)
    have hD5 := hD4.below hb5 hD4.lt
    have hM5 := HM4.out.below hb5
    obtain ⟨lo, hlo⟩ : ∃ lo, lo = Y.heap.size := ⟨_, rfl⟩
    rw [← hlo] at hM5
    have HLO : Hid (lo = Y.heap.size) := hlo
    clear x0 x1 x2 x3 x4 HMg hb5 hD4 HM4 B4 hlo
    have hlow : lo ≤ w5.heap.size := by
      obtain ⟨a0, c0, a1, c1, a2, c2, a3, c3, a4, c4, gt, gr, h1, h2, h3, -⟩ := hM5
      exact Nat.le_trans h1 (Nat.le_of_lt (Array.getElem?_eq_some_iff.1 h3).1)
    have HS : ∀ wx, Below w5.heap.size w5 wx → Calls Tryd.prog 10 #[.pointer (some ⟨g, 0, none⟩)] wx fun e w' => ∃ v, e = .returned v ∧ Below wx.heap.size wx w' ∧ v = .int .i64 (256 + (ws.length : Int)) := fun wx hbx => by
      refine (msize_any g _ ws ms A B C wx (by omega) (hM5.below hbx)).mono ?_
      rintro e w' ⟨rfl, rfl⟩
      exact ⟨_, rfl, Below.refl _ _, rfl⟩
    have HL : ∀ wx, Below w5.heap.size w5 wx → Calls Tryd.prog 11 #[.pointer (some ⟨g, 0, none⟩)] wx fun e w' => ∃ v, e = .returned v ∧ Below wx.heap.size wx w' ∧ v = .int .i64 (longM ws : Nat) := fun wx hbx => by
      refine (mlongest_any g _ ws ms A B C wx (hM5.below hbx)).mono ?_
      rintro e w' ⟨rfl, rfl⟩
      exact ⟨_, rfl, Below.refl _ _, rfl⟩
    have HR : ∀ wx, Below w5.heap.size w5 wx → Calls Tryd.prog 21 #[.agg #[.slice aw ws.length cw, .slice am ms.length cm, .slice a A.length ca, .slice b B.length cb, .slice c C.length cc]] wx fun e w' => ∃ v, e = .returned v ∧ Below wx.heap.size wx w' ∧ v = .int .i64 (longM ws : Nat) := fun wx hbx => by
      refine (refLongest_any aw am a b c cw ms.length cm A.length ca B.length cb C.length cc ws wx (by omega) (HW.out.below (B5.trans (hbx.mono B5.size)))).mono ?_
      rintro e w' ⟨rfl, h⟩
      exact ⟨_, rfl, h, rfl⟩
    have HDt : ∀ wx, Below w5.heap.size w5 wx → Calls Tryd.prog 23 #[.pointer (some ⟨g, 0, none⟩)] wx fun e w' => ∃ v, e = .returned v ∧ Below wx.heap.size wx w' ∧ ∃ a0 c0 a1 c1 a2 c2 a3 c3 a4 c4, v = .agg #[.slice a0 ws.length c0, .slice a1 ms.length c1, .slice a2 A.length c2, .slice a3 B.length c3, .slice a4 C.length c4] ∧ OwnD w' lo a0 c0 a1 c1 a2 c2 a3 c3 a4 c4 ws ms A B C := fun wx hbx => by
      refine (data_any g _ ws ms A B C wx HK0.out (hM5.below hbx)).mono ?_
      rintro e w' ⟨a0, c0, a1, c1, a2, c2, a3, c3, a4, c4, rfl, h, h'⟩
      exact ⟨_, rfl, h', _, _, _, _, _, _, _, _, _, _, rfl, h.low (by have := hbx.size; omega)⟩
    have HSm : ∀ a0 c0 a1 c1 a2 c2 a3 c3 a4 c4 wx, Below w5.heap.size w5 wx → OwnD wx lo a0 c0 a1 c1 a2 c2 a3 c3 a4 c4 ws ms A B C → Calls Tryd.prog 22 #[.agg #[.slice a0 ws.length c0, .slice a1 ms.length c1, .slice a2 A.length c2, .slice a3 B.length c3, .slice a4 C.length c4], .agg #[.slice aw ws.length cw, .slice am ms.length cm, .slice a A.length ca, .slice b B.length cb, .slice c C.length cc]] wx fun e w' => ∃ v, e = .returned v ∧ Below wx.heap.size wx w' ∧ v = .bool true := fun a0 c0 a1 c1 a2 c2 a3 c3 a4 c4 wx hbx hO => by
      have hBB := B5.trans (hbx.mono B5.size)
      obtain ⟨s3, s4, q1, q2, o2, u2, o3, u3, o4⟩ := hO.spans
      refine (keepSame_any a0 a1 a2 a3 a4 aw am a b c c0 c1 c2 c3 c4 cw cm ca cb cc ws ms A B C wx (by have := HN.out; omega) hO.words.row.sp hO.merges.row.sp o2.row.sp o3.row.sp o4.row.sp (HW.out.below hBB) (HM.out.below hBB) (HA.out.below hBB).at' (HB.out.below hBB).at' (HC.out.below hBB).at').mono ?_
      rintro e w' ⟨rfl, h⟩
      exact ⟨_, rfl, h, rfl⟩
    have HT : ∀ wx, Below w5.heap.size w5 wx → Calls Tryd.prog 24 #[.pointer (some ⟨g, 0, none⟩)] wx fun e w' => ∃ v, e = .returned v ∧ Below wx.heap.size wx w' ∧ ∃ gt, v = .pointer (some ⟨gt, 0, none⟩) := fun wx hbx => by
      refine (mtable_any g _ ws ms A B C wx (hM5.below hbx)).mono ?_
      rintro e w' ⟨gt, rfl, -, rfl⟩
      exact ⟨_, rfl, Below.refl _ _, _, rfl⟩
    have HK : ∀ wx, Below w5.heap.size w5 wx → Calls Tryd.prog 14 #[] wx fun e w' => ∃ v, e = .returned v ∧ Below wx.heap.size wx w' ∧ v = .bool true := fun wx hbx => by
      refine (known_any wx (HG.out.below (B5.trans (hbx.mono B5.size)))).mono ?_
      rintro e w' ⟨rfl, h⟩
      exact ⟨_, rfl, h, rfl⟩
    have HD4 : Hid (DBox w5 z _ _ _ _ _) := hD5
    have HB5 : Hid (Below w.heap.size w w5) := B5
    clear HW HM HA HB HC HG HN HK0 HLO hM5 hlow hD5 B5
    go_wp2_with fail
    have hD4 := HD4.out
    refine wp_region_mono 54 [62, 63, 64, 65, 66, 67, 68, 69, 70, 71, 72, 73, 74, 75, 76, 77, 78, 79, 80, 81, 82, 83, 84, 85, 86, 87, 88, 89, 90, 91, 92, 93, 94, 95, 96, 97, 98, 99, 100, 101, 102, 103, 104, 105, 106, 107, 108, 109, 110, 111, 112, 113, 114, 8] [qR (.string s),
        qR (.string s),
        qR (.bool true),
        qR (.bool true),
        qR (.bool sb),
        qR (.bool sb),
        qR (.bool true),
        qR (.bool true),
        qR (.bool true),
        qR (.int .i64 rk),
        qR (.int .i64 rk),
        qR (.bool true),
        qR (.bool true),
        qR (.bool true),
        qR (.int .i64 ri),
        qR (.int .i64 ri),
        qR (.bool true),
        qR (.bool true),
        qR (.bool true),
        qR (.bool rb),
        qR (.bool rb),
        qR (.bool true),
        qR (.bool true),
        qR (.bool true),
        qR (.pointer (some ⟨g, 0, none⟩)),
        qR (.int .i64 (256 + (ws.length : Int))),
        qR (.pointer (some ⟨z, 0, none⟩)),
        qR (.slice aw ws.length cw),
        qR (.int .i64 (ws.length : Nat)),
        qR (.int .i64 (256 + (ws.length : Int))),
        qR (.bool true),
        qR (.bool true),
        qR (.bool true),
        qR (.pointer (some ⟨g, 0, none⟩)),
        qR (.int .i64 (longM ws : Nat)),
        qR (.agg #[.slice aw ws.length cw, .slice am ms.length cm, .slice a A.length ca, .slice b B.length cb, .slice c C.length cc]),
        qR (.int .i64 (longM ws : Nat)),
        qR (.bool true),
        qR (.bool true),
        qR (.bool true),
        qR (.pointer (some ⟨g, 0, none⟩)),
        fun v wx => ∃ a0 c0 a1 c1 a2 c2 a3 c3 a4 c4, v = .agg #[.slice a0 ws.length c0, .slice a1 ms.length c1, .slice a2 A.length c2, .slice a3 B.length c3, .slice a4 C.length c4] ∧ OwnD wx lo a0 c0 a1 c1 a2 c2 a3 c3 a4 c4 ws ms A B C,
        qR (.agg #[.slice aw ws.length cw, .slice am ms.length cm, .slice a A.length ca, .slice b B.length cb, .slice c C.length cc]),
        qR (.bool true),
        qR (.bool true),
        qR (.bool true),
        qR (.pointer (some ⟨g, 0, none⟩)),
        fun v wx => ∃ gt, v = .pointer (some ⟨gt, 0, none⟩),
        qR (.bool true),
        qR (.bool true),
        qR (.bool true),
        qR (.bool true),
        qR (.bool true),
        qR (.bool true)] (by kernel_rfl) (by kernel_rfl) rfl rfl ?stab ?steps ?fin
    case stab =>
      intro φ hφ
      simp only [List.mem_cons, List.not_mem_nil, or_false] at hφ
      rcases hφ with rfl | rfl | rfl | rfl | rfl | rfl | rfl | rfl | rfl | rfl | rfl | rfl | rfl | rfl | rfl | rfl | rfl | rfl | rfl | rfl | rfl | rfl | rfl | rfl | rfl | rfl | rfl | rfl | rfl | rfl | rfl | rfl | rfl | rfl | rfl | rfl | rfl | rfl | rfl | rfl | rfl | rfl | rfl | rfl | rfl | rfl | rfl | rfl | rfl | rfl | rfl | rfl | rfl | rfl
      · exact fun _ _ _ _ h => h
      · exact fun _ _ _ _ h => h
      · exact fun _ _ _ _ h => h
      · exact fun _ _ _ _ h => h
      · exact fun _ _ _ _ h => h
      · exact fun _ _ _ _ h => h
      · exact fun _ _ _ _ h => h
      · exact fun _ _ _ _ h => h
      · exact fun _ _ _ _ h => h
      · exact fun _ _ _ _ h => h
      · exact fun _ _ _ _ h => h
      · exact fun _ _ _ _ h => h
      · exact fun _ _ _ _ h => h
      · exact fun _ _ _ _ h => h
      · exact fun _ _ _ _ h => h
      · exact fun _ _ _ _ h => h
      · exact fun _ _ _ _ h => h
      · exact fun _ _ _ _ h => h
      · exact fun _ _ _ _ h => h
      · exact fun _ _ _ _ h => h
      · exact fun _ _ _ _ h => h
      · exact fun _ _ _ _ h => h
      · exact fun _ _ _ _ h => h
      · exact fun _ _ _ _ h => h
      · exact fun _ _ _ _ h => h
      · exact fun _ _ _ _ h => h
      · exact fun _ _ _ _ h => h
      · exact fun _ _ _ _ h => h
      · exact fun _ _ _ _ h => h
      · exact fun _ _ _ _ h => h
      · exact fun _ _ _ _ h => h
      · exact fun _ _ _ _ h => h
      · exact fun _ _ _ _ h => h
      · exact fun _ _ _ _ h => h
      · exact fun _ _ _ _ h => h
      · exact fun _ _ _ _ h => h
      · exact fun _ _ _ _ h => h
      · exact fun _ _ _ _ h => h
      · exact fun _ _ _ _ h => h
      · exact fun _ _ _ _ h => h
      · exact fun _ _ _ _ h => h
      · rintro v wx w' hb ⟨a0, c0, a1, c1, a2, c2, a3, c3, a4, c4, h1, h2⟩
        exact ⟨a0, c0, a1, c1, a2, c2, a3, c3, a4, c4, h1, h2.below hb⟩
      · exact fun _ _ _ _ h => h
      · exact fun _ _ _ _ h => h
      · exact fun _ _ _ _ h => h
      · exact fun _ _ _ _ h => h
      · exact fun _ _ _ _ h => h
      · exact fun _ _ _ _ h => h
      · exact fun _ _ _ _ h => h
      · exact fun _ _ _ _ h => h
      · exact fun _ _ _ _ h => h
      · exact fun _ _ _ _ h => h
      · exact fun _ _ _ _ h => h
      · exact fun _ _ _ _ h => h
    case steps =>
      have hBx : ∀ wx, Below w5.drew.heap.size w5.drew wx → Below w5.heap.size w5 wx := fun wx hb => ⟨hb.os, hb.tape, hb.output, hb.size, hb.block⟩
      refine ⟨?_, ?_, ?_, ?_, ?_, ?_, ?_, ?_, ?_, ?_, ?_, ?_, ?_, ?_, ?_, ?_, ?_, ?_, ?_, ?_, ?_, ?_, ?_, ?_, ?_, ?_, ?_, ?_, ?_, ?_, ?_, ?_, ?_, ?_, ?_, ?_, ?_, ?_, ?_, ?_, ?_, ?_, ?_, ?_, ?_, ?_, ?_, ?_, ?_, ?_, ?_, ?_, ?_, ?_, trivial⟩
      · intro a' he wx hb hd
        have e0 : a'.eval (.tmp 12) = .string s := he.get rfl
        exact mStep_read rfl (by simp [execOp, e0]) rfl
      · intro a' he wx hb hd
        have e0 : a'.eval (.tmp 14) = .string s := he.get rfl
        exact mStep_read rfl (by simp [execOp, e0]) rfl
      · intro a' he wx hb hd
        have e0 : a'.eval (.tmp 62) = .string s := hd 0 rfl _ _ rfl rfl
        have e1 : a'.eval (.tmp 63) = .string s := hd 1 rfl _ _ rfl rfl
        refine mStep_read rfl ?_ rfl
        first | (simp [execOp, e0, e1]; done) | (simp [execOp, e0, e1]; go_simp; done) | (simp [execOp, e0, e1, resolve]; go_simp; done) | (simp only [execOp, e0, e1]; go_simp)
      · intro a' he wx hb hd
        have e0 : a'.eval (.tmp 64) = .bool true := hd 2 rfl _ _ rfl rfl
        exact mStep_read rfl (by simp [execOp, e0]) rfl
      · intro a' he wx hb hd
        have e0 : a'.eval (.tmp 13) = .bool sb := he.get rfl
        exact mStep_read_on rfl rfl rfl (hd 3 rfl _ _ rfl rfl) (by simp [execOp, e0]) rfl
      · intro a' he wx hb hd
        have e0 : a'.eval (.tmp 15) = .bool sb := he.get rfl
        exact mStep_read_on rfl rfl rfl (hd 3 rfl _ _ rfl rfl) (by simp [execOp, e0]) rfl
      · intro a' he wx hb hd
        have e0 : a'.eval (.tmp 66) = .bool sb := hd 4 rfl _ _ rfl rfl
        have e1 : a'.eval (.tmp 67) = .bool sb := hd 5 rfl _ _ rfl rfl
        refine mStep_read_on rfl rfl rfl (hd 3 rfl _ _ rfl rfl) ?_ rfl
        first | (simp [execOp, e0, e1]; done) | (simp [execOp, e0, e1]; go_simp; done) | (simp [execOp, e0, e1, resolve]; go_simp; done) | (simp only [execOp, e0, e1]; go_simp)
      · intro a' he wx hb hd
        have e0 : a'.eval (.tmp 65) = .bool true := hd 3 rfl _ _ rfl rfl
        have e1 : a'.eval (.tmp 68) = .bool true := hd 6 rfl _ _ rfl rfl
        refine mStep_read rfl ?_ rfl
        simp only [execOp, e0, e1]
        go_simp
      · intro a' he wx hb hd
        have e0 : a'.eval (.tmp 69) = .bool true := hd 7 rfl _ _ rfl rfl
        exact mStep_read rfl (by simp [execOp, e0]) rfl
      · intro a' he wx hb hd
        have e0 : a'.eval (.tmp 16) = .int .i64 rk := he.get rfl
        exact mStep_read_on rfl rfl rfl (hd 8 rfl _ _ rfl rfl) (by simp [execOp, e0]) rfl
      · intro a' he wx hb hd
        have e0 : a'.eval (.tmp 19) = .int .i64 rk := he.get rfl
        exact mStep_read_on rfl rfl rfl (hd 8 rfl _ _ rfl rfl) (by simp [execOp, e0]) rfl
      · intro a' he wx hb hd
        have e0 : a'.eval (.tmp 71) = .int .i64 rk := hd 9 rfl _ _ rfl rfl
        have e1 : a'.eval (.tmp 72) = .int .i64 rk := hd 10 rfl _ _ rfl rfl
        refine mStep_read_on rfl rfl rfl (hd 8 rfl _ _ rfl rfl) ?_ rfl
        first | (simp [execOp, e0, e1]; done) | (simp [execOp, e0, e1]; go_simp; done) | (simp [execOp, e0, e1, resolve]; go_simp; done) | (simp only [execOp, e0, e1]; go_simp)
      · intro a' he wx hb hd
        have e0 : a'.eval (.tmp 70) = .bool true := hd 8 rfl _ _ rfl rfl
        have e1 : a'.eval (.tmp 73) = .bool true := hd 11 rfl _ _ rfl rfl
        refine mStep_read rfl ?_ rfl
        simp only [execOp, e0, e1]
        go_simp
      · intro a' he wx hb hd
        have e0 : a'.eval (.tmp 74) = .bool true := hd 12 rfl _ _ rfl rfl
        exact mStep_read rfl (by simp [execOp, e0]) rfl
      · intro a' he wx hb hd
        have e0 : a'.eval (.tmp 17) = .int .i64 ri := he.get rfl
        exact mStep_read_on rfl rfl rfl (hd 13 rfl _ _ rfl rfl) (by simp [execOp, e0]) rfl
      · intro a' he wx hb hd
        have e0 : a'.eval (.tmp 20) = .int .i64 ri := he.get rfl
        exact mStep_read_on rfl rfl rfl (hd 13 rfl _ _ rfl rfl) (by simp [execOp, e0]) rfl
      · intro a' he wx hb hd
        have e0 : a'.eval (.tmp 76) = .int .i64 ri := hd 14 rfl _ _ rfl rfl
        have e1 : a'.eval (.tmp 77) = .int .i64 ri := hd 15 rfl _ _ rfl rfl
        refine mStep_read_on rfl rfl rfl (hd 13 rfl _ _ rfl rfl) ?_ rfl
        first | (simp [execOp, e0, e1]; done) | (simp [execOp, e0, e1]; go_simp; done) | (simp [execOp, e0, e1, resolve]; go_simp; done) | (simp only [execOp, e0, e1]; go_simp)
      · intro a' he wx hb hd
        have e0 : a'.eval (.tmp 75) = .bool true := hd 13 rfl _ _ rfl rfl
        have e1 : a'.eval (.tmp 78) = .bool true := hd 16 rfl _ _ rfl rfl
        refine mStep_read rfl ?_ rfl
        simp only [execOp, e0, e1]
        go_simp
      · intro a' he wx hb hd
        have e0 : a'.eval (.tmp 79) = .bool true := hd 17 rfl _ _ rfl rfl
        exact mStep_read rfl (by simp [execOp, e0]) rfl
      · intro a' he wx hb hd
        have e0 : a'.eval (.tmp 18) = .bool rb := he.get rfl
        exact mStep_read_on rfl rfl rfl (hd 18 rfl _ _ rfl rfl) (by simp [execOp, e0]) rfl
      · intro a' he wx hb hd
        have e0 : a'.eval (.tmp 21) = .bool rb := he.get rfl
        exact mStep_read_on rfl rfl rfl (hd 18 rfl _ _ rfl rfl) (by simp [execOp, e0]) rfl
      · intro a' he wx hb hd
        have e0 : a'.eval (.tmp 81) = .bool rb := hd 19 rfl _ _ rfl rfl
        have e1 : a'.eval (.tmp 82) = .bool rb := hd 20 rfl _ _ rfl rfl
        refine mStep_read_on rfl rfl rfl (hd 18 rfl _ _ rfl rfl) ?_ rfl
        first | (simp [execOp, e0, e1]; done) | (simp [execOp, e0, e1]; go_simp; done) | (simp [execOp, e0, e1, resolve]; go_simp; done) | (simp only [execOp, e0, e1]; go_simp)
      · intro a' he wx hb hd
        have e0 : a'.eval (.tmp 80) = .bool true := hd 18 rfl _ _ rfl rfl
        have e1 : a'.eval (.tmp 83) = .bool true := hd 21 rfl _ _ rfl rfl
        refine mStep_read rfl ?_ rfl
        simp only [execOp, e0, e1]
        go_simp
      · intro a' he wx hb hd
        have e0 : a'.eval (.tmp 84) = .bool true := hd 22 rfl _ _ rfl rfl
        exact mStep_read rfl (by simp [execOp, e0]) rfl
      · intro a' he wx hb hd
        have e0 : a'.eval (.tmp 9) = .pointer (some ⟨g, 0, none⟩) := he.get rfl
        exact mStep_read_on rfl rfl rfl (hd 23 rfl _ _ rfl rfl) (by simp [execOp, e0]) rfl
      · intro a' he wx hb hd
        have e0 : a'.eval (.tmp 86) = .pointer (some ⟨g, 0, none⟩) := hd 24 rfl _ _ rfl rfl
        exact mStep_call_on rfl rfl rfl (hd 23 rfl _ _ rfl rfl) (by simp [execOp, e0, resolve]; rfl) (HS wx (hBx wx hb))
      · intro a' he wx hb hd
        have e0 : a'.eval (.tmp 4) = .pointer (some ⟨z, 0, none⟩) := he.get rfl
        refine mStep_read_on rfl rfl rfl (hd 23 rfl _ _ rfl rfl) ?_ rfl
        simp only [execOp, e0]
        go_simp
      · intro a' he wx hb hd
        have e0 : a'.eval (.tmp 88) = .pointer (some ⟨z, 0, none⟩) := hd 26 rfl _ _ rfl rfl
        have c0 := (hD4.below (hBx wx hb) hD4.lt).c0
        refine mStep_read_on rfl rfl rfl (hd 23 rfl _ _ rfl rfl) ?_ rfl
        simp only [execOp, e0]
        go_simp
      · intro a' he wx hb hd
        have e0 : a'.eval (.tmp 89) = .slice aw ws.length cw := hd 27 rfl _ _ rfl rfl
        refine mStep_read_on rfl rfl rfl (hd 23 rfl _ _ rfl rfl) ?_ rfl
        simp [execOp, e0, resolve]
        go_simp
      · intro a' he wx hb hd
        have e0 : a'.eval (.tmp 90) = .int .i64 (ws.length : Nat) := hd 28 rfl _ _ rfl rfl
        refine mStep_read_on rfl rfl rfl (hd 23 rfl _ _ rfl rfl) ?_ rfl
        simp only [execOp, e0]
        go_simp
        exact IntWalk.i64_in _ (by omega)
      · intro a' he wx hb hd
        have e0 : a'.eval (.tmp 87) = .int .i64 (256 + (ws.length : Int)) := hd 25 rfl _ _ rfl rfl
        have e1 : a'.eval (.tmp 91) = .int .i64 (256 + (ws.length : Int)) := hd 29 rfl _ _ rfl rfl
        refine mStep_read_on rfl rfl rfl (hd 23 rfl _ _ rfl rfl) ?_ rfl
        first | (simp [execOp, e0, e1]; done) | (simp [execOp, e0, e1]; go_simp; done) | (simp [execOp, e0, e1, resolve]; go_simp; done) | (simp only [execOp, e0, e1]; go_simp)
      · intro a' he wx hb hd
        have e0 : a'.eval (.tmp 85) = .bool true := hd 23 rfl _ _ rfl rfl
        have e1 : a'.eval (.tmp 92) = .bool true := hd 30 rfl _ _ rfl rfl
        refine mStep_read rfl ?_ rfl
        simp only [execOp, e0, e1]
        go_simp
      · intro a' he wx hb hd
        have e0 : a'.eval (.tmp 93) = .bool true := hd 31 rfl _ _ rfl rfl
        exact mStep_read rfl (by simp [execOp, e0]) rfl
      · intro a' he wx hb hd
        have e0 : a'.eval (.tmp 9) = .pointer (some ⟨g, 0, none⟩) := he.get rfl
        exact mStep_read_on rfl rfl rfl (hd 32 rfl _ _ rfl rfl) (by simp [execOp, e0]) rfl
      · intro a' he wx hb hd
        have e0 : a'.eval (.tmp 95) = .pointer (some ⟨g, 0, none⟩) := hd 33 rfl _ _ rfl rfl
        exact mStep_call_on rfl rfl rfl (hd 32 rfl _ _ rfl rfl) (by simp [execOp, e0, resolve]; rfl) (HL wx (hBx wx hb))
      · intro a' he wx hb hd
        have e0 : a'.eval (.tmp 4) = .pointer (some ⟨z, 0, none⟩) := he.get rfl
        have hDx := hD4.below (hBx wx hb) hD4.lt
        have c0 := hDx.c0
        have c1 := hDx.c1
        have c2 := hDx.c2
        have c3 := hDx.c3
        have c4 := hDx.c4
        refine mStep_read_on rfl rfl rfl (hd 32 rfl _ _ rfl rfl) ?_ rfl
        simp only [execOp, e0]
        go_simp
      · intro a' he wx hb hd
        have e0 : a'.eval (.tmp 97) = .agg #[.slice aw ws.length cw, .slice am ms.length cm, .slice a A.length ca, .slice b B.length cb, .slice c C.length cc] := hd 35 rfl _ _ rfl rfl
        exact mStep_call_on rfl rfl rfl (hd 32 rfl _ _ rfl rfl) (by simp [execOp, e0, resolve]; rfl) (HR wx (hBx wx hb))
      · intro a' he wx hb hd
        have e0 : a'.eval (.tmp 96) = .int .i64 (longM ws : Nat) := hd 34 rfl _ _ rfl rfl
        have e1 : a'.eval (.tmp 98) = .int .i64 (longM ws : Nat) := hd 36 rfl _ _ rfl rfl
        refine mStep_read_on rfl rfl rfl (hd 32 rfl _ _ rfl rfl) ?_ rfl
        first | (simp [execOp, e0, e1]; done) | (simp [execOp, e0, e1]; go_simp; done) | (simp [execOp, e0, e1, resolve]; go_simp; done) | (simp only [execOp, e0, e1]; go_simp)
      · intro a' he wx hb hd
        have e0 : a'.eval (.tmp 94) = .bool true := hd 32 rfl _ _ rfl rfl
        have e1 : a'.eval (.tmp 99) = .bool true := hd 37 rfl _ _ rfl rfl
        refine mStep_read rfl ?_ rfl
        simp only [execOp, e0, e1]
        go_simp
      · intro a' he wx hb hd
        have e0 : a'.eval (.tmp 100) = .bool true := hd 38 rfl _ _ rfl rfl
        exact mStep_read rfl (by simp [execOp, e0]) rfl
      · intro a' he wx hb hd
        have e0 : a'.eval (.tmp 9) = .pointer (some ⟨g, 0, none⟩) := he.get rfl
        exact mStep_read_on rfl rfl rfl (hd 39 rfl _ _ rfl rfl) (by simp [execOp, e0]) rfl
      · intro a' he wx hb hd
        have e0 : a'.eval (.tmp 102) = .pointer (some ⟨g, 0, none⟩) := hd 40 rfl _ _ rfl rfl
        exact mStep_call_on rfl rfl rfl (hd 39 rfl _ _ rfl rfl) (by simp [execOp, e0, resolve]; rfl) (HDt wx (hBx wx hb))
      · intro a' he wx hb hd
        have e0 : a'.eval (.tmp 4) = .pointer (some ⟨z, 0, none⟩) := he.get rfl
        have hDx := hD4.below (hBx wx hb) hD4.lt
        have c0 := hDx.c0
        have c1 := hDx.c1
        have c2 := hDx.c2
        have c3 := hDx.c3
        have c4 := hDx.c4
        refine mStep_read_on rfl rfl rfl (hd 39 rfl _ _ rfl rfl) ?_ rfl
        simp only [execOp, e0]
        go_simp
      · intro a' he wx hb hd
        have e0 := hd 41 rfl _ _ rfl rfl
        have e1 : a'.eval (.tmp 104) = .agg #[.slice aw ws.length cw, .slice am ms.length cm, .slice a A.length ca, .slice b B.length cb, .slice c C.length cc] := hd 42 rfl _ _ rfl rfl
        obtain ⟨a0, c0, a1, c1, a2, c2, a3, c3, a4, c4, e0, hO⟩ := e0
        exact mStep_call_on rfl rfl rfl (hd 39 rfl _ _ rfl rfl) (by simp [execOp, resolve, e0, e1]; rfl) (HSm a0 c0 a1 c1 a2 c2 a3 c3 a4 c4 wx (hBx wx hb) hO)
      · intro a' he wx hb hd
        have e0 : a'.eval (.tmp 101) = .bool true := hd 39 rfl _ _ rfl rfl
        have e1 : a'.eval (.tmp 105) = .bool true := hd 43 rfl _ _ rfl rfl
        refine mStep_read rfl ?_ rfl
        simp only [execOp, e0, e1]
        go_simp
      · intro a' he wx hb hd
        have e0 : a'.eval (.tmp 106) = .bool true := hd 44 rfl _ _ rfl rfl
        exact mStep_read rfl (by simp [execOp, e0]) rfl
      · intro a' he wx hb hd
        have e0 : a'.eval (.tmp 9) = .pointer (some ⟨g, 0, none⟩) := he.get rfl
        exact mStep_read_on rfl rfl rfl (hd 45 rfl _ _ rfl rfl) (by simp [execOp, e0]) rfl
      · intro a' he wx hb hd
        have e0 : a'.eval (.tmp 108) = .pointer (some ⟨g, 0, none⟩) := hd 46 rfl _ _ rfl rfl
        exact mStep_call_on rfl rfl rfl (hd 45 rfl _ _ rfl rfl) (by simp [execOp, e0, resolve]; rfl) (HT wx (hBx wx hb))
      · intro a' he wx hb hd
        have e0 := hd 47 rfl _ _ rfl rfl
        obtain ⟨gt, e0⟩ := e0
        refine mStep_read_on rfl rfl rfl (hd 45 rfl _ _ rfl rfl) ?_ rfl
        simp only [execOp, e0]
        go_simp
      · intro a' he wx hb hd
        have e0 : a'.eval (.tmp 107) = .bool true := hd 45 rfl _ _ rfl rfl
        have e1 : a'.eval (.tmp 110) = .bool true := hd 48 rfl _ _ rfl rfl
        refine mStep_read rfl ?_ rfl
        simp only [execOp, e0, e1]
        go_simp
      · intro a' he wx hb hd
        have e0 : a'.eval (.tmp 111) = .bool true := hd 49 rfl _ _ rfl rfl
        exact mStep_read rfl (by simp [execOp, e0]) rfl
      · intro a' he wx hb hd
        exact mStep_call_on rfl rfl rfl (hd 50 rfl _ _ rfl rfl) (by simp [execOp, resolve]; rfl) (HK wx (hBx wx hb))
      · intro a' he wx hb hd
        have e0 : a'.eval (.tmp 112) = .bool true := hd 50 rfl _ _ rfl rfl
        have e1 : a'.eval (.tmp 113) = .bool true := hd 51 rfl _ _ rfl rfl
        refine mStep_read rfl ?_ rfl
        simp only [execOp, e0, e1]
        go_simp
      · intro a' he wx hb hd
        have e0 : a'.eval (.tmp 114) = .bool true := hd 52 rfl _ _ rfl rfl
        exact mStep_read rfl (by simp [execOp, e0]) rfl
    case fin =>
      rintro wx hb _ rfl _ rfl _ rfl _ rfl _ rfl _ rfl _ rfl _ rfl _ rfl _ rfl _ rfl _ rfl _ rfl _ rfl _ rfl _ rfl _ rfl _ rfl _ rfl _ rfl _ rfl _ rfl _ rfl _ rfl _ rfl _ rfl _ rfl _ rfl _ rfl _ rfl _ rfl _ rfl _ rfl _ rfl _ rfl _ rfl _ rfl _ rfl _ rfl _ rfl _ rfl u103 p103 _ rfl _ rfl _ rfl _ rfl _ rfl u109 p109 _ rfl _ rfl _ rfl _ rfl _ rfl _ rfl
      simp only [finV, Act.put, List.setIfInBounds_toArray, List.set_cons_succ, List.set_cons_zero, List.drop_succ_cons, List.drop_zero]
      have hb5 : Below w5.heap.size w5 wx := ⟨hb.os, hb.tape, hb.output, hb.size, hb.block⟩
      have B6 := HB5.out.trans (hb5.mono HB5.out.size)
      clear HS HL HR HDt HSm HT HK HD4 hD4 HB5 hb hb5
      go_wp2_with fail
      go_ret
      exact ⟨rfl, B6⟩
end Go.Proofs.YtlnebbciefdpoaaDoor
