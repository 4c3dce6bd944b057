/- tesserakeep.Frame.Intact: its contract. -/
import Derived.Test.YtlnebbciefdpoaaDoorMHanded
namespace Go.Proofs.YtlnebbciefdpoaaDoor
open Go.RowKit Go.Sort Go.Joins
set_option linter.unusedVariables false
set_option maxRecDepth 100000 in
set_option maxHeartbeats 4000000 in
theorem frameIntact_any (gf g0 g1 g2 g3 g4 : Nat) (aw am a b c : Option Addr) (cw cm ca cb cc : Nat) (ws : List ByteArray) (ms : List Mg) (A B C : List Sp) (w : World) (hn : ws.length ≤ 8796093022208 ∧ ms.length ≤ 5864062014805 ∧ A.length ≤ 17592186044416 ∧ B.length ≤ 17592186044416 ∧ C.length ≤ 17592186044416) (hW : WSP w aw ws) (hM : MSP w am ms) (hA : SPS w a A) (hB : SPS w b B) (hC : SPS w c C) (hF : Blk w gf (.cells #[.slice aw ws.length cw, .slice am ms.length cm, .slice a A.length ca, .slice b B.length cb, .slice c C.length cc, .slice (some ⟨g0, 0, none⟩) (ws.length + 80) (ws.length + 80), .slice (some ⟨g1, 0, none⟩) (ms.length + 80) (ms.length + 80), .slice (some ⟨g2, 0, none⟩) (A.length + 80) (A.length + 80), .slice (some ⟨g3, 0, none⟩) (B.length + 80) (B.length + 80), .slice (some ⟨g4, 0, none⟩) (C.length + 80) (C.length + 80)] 87 (0, 0)))
    (r0 : OwnPw w g0 (cellsW (fillW ws behind 80))) (r1 : OwnPm w g1 (cellsM (fillM ms ⟨-7, 0, 0⟩ 80))) (r2 : OwnP w g2 (cellsS (fillS A ⟨-7, 0⟩ 80))) (r3 : OwnP w g3 (cellsS (fillS B ⟨-7, 0⟩ 80))) (r4 : OwnP w g4 (cellsS (fillS C ⟨-7, 0⟩ 80))) :
    Calls Tryd.prog 17 #[.pointer (some ⟨gf, 0, none⟩)] w fun e w' => e = .returned (.bool true) ∧ Below w.heap.size w w' := by
  have C0 : ∀ wx, Below w.heap.size w wx → Calls Tryd.prog 43 #[.slice (some ⟨g0, 0, none⟩) (ws.length + 80) (ws.length + 80), .slice aw ws.length cw, .string ⟨#[98, 101, 104, 105, 110, 100]⟩] wx fun e w' => ∃ v, e = .returned v ∧ Below wx.heap.size wx w' ∧ qR (.bool true) v w' := fun wx hb => by
    refine (intactW_any g0 aw cw ws behind wx hn.1 (r0.below hb r0.lt) (hW.below hb)).mono ?_
    rintro e w' ⟨rfl, hb'⟩
    exact ⟨_, rfl, hb', rfl⟩
  have C1 : ∀ wx, Below w.heap.size w wx → Calls Tryd.prog 44 #[.slice (some ⟨g1, 0, none⟩) (ms.length + 80) (ms.length + 80), .slice am ms.length cm, .agg #[.int .i64 (-7), .int .i64 0, .int .i64 0]] wx fun e w' => ∃ v, e = .returned v ∧ Below wx.heap.size wx w' ∧ qR (.bool true) v w' := fun wx hb => by
    refine (intactM_any g1 am cm ms ⟨-7, 0, 0⟩ wx hn.2.1 (r1.below hb r1.lt) (hM.below hb)).mono ?_
    rintro e w' ⟨rfl, hb'⟩
    exact ⟨_, rfl, hb', rfl⟩
  have C2 : ∀ wx, Below w.heap.size w wx → Calls Tryd.prog 45 #[.slice (some ⟨g2, 0, none⟩) (A.length + 80) (A.length + 80), .slice a A.length ca, .agg #[.int .i32 (-7), .int .i32 0]] wx fun e w' => ∃ v, e = .returned v ∧ Below wx.heap.size wx w' ∧ qR (.bool true) v w' := fun wx hb => by
    refine (intact_any g2 a ca A ⟨-7, 0⟩ wx hn.2.2.1 (r2.below hb r2.lt) (hA.below hb)).mono ?_
    rintro e w' ⟨rfl, hb'⟩
    exact ⟨_, rfl, hb', rfl⟩
  have C3 : ∀ wx, Below w.heap.size w wx → Calls Tryd.prog 45 #[.slice (some ⟨g3, 0, none⟩) (B.length + 80) (B.length + 80), .slice b B.length cb, .agg #[.int .i32 (-7), .int .i32 0]] wx fun e w' => ∃ v, e = .returned v ∧ Below wx.heap.size wx w' ∧ qR (.bool true) v w' := fun wx hb => by
    refine (intact_any g3 b cb B ⟨-7, 0⟩ wx hn.2.2.2.1 (r3.below hb r3.lt) (hB.below hb)).mono ?_
    rintro e w' ⟨rfl, hb'⟩
    exact ⟨_, rfl, hb', rfl⟩
  have C4 : ∀ wx, Below w.heap.size w wx → Calls Tryd.prog 45 #[.slice (some ⟨g4, 0, none⟩) (C.length + 80) (C.length + 80), .slice c C.length cc, .agg #[.int .i32 (-7), .int .i32 0]] wx fun e w' => ∃ v, e = .returned v ∧ Below wx.heap.size wx w' ∧ qR (.bool true) v w' := fun wx hb => by
    refine (intact_any g4 c cc C ⟨-7, 0⟩ wx hn.2.2.2.2 (r4.below hb r4.lt) (hC.below hb)).mono ?_
    rintro e w' ⟨rfl, hb'⟩
    exact ⟨_, rfl, hb', rfl⟩
  have HF : Hid (Blk w gf _) := hF
  clear r0 r1 r2 r3 r4 hW hM hA hB hC hF
  go_enter Tryd.func17, Tryd.ntmps17
  go_wp2_with fail
  have hF := HF.out
  refine wp_region_mono 63 [3, 4, 5, 6, 7, 8, 9, 10, 11, 12, 13, 14, 15, 16, 17, 18, 19, 20, 21, 22, 23, 24, 25, 26, 27, 28, 29, 30, 31, 32, 33, 34, 35, 36, 37, 38, 39, 40, 41, 42, 43, 44, 45, 46, 47, 48, 49, 50, 51, 52, 53, 54, 55, 56, 57, 58, 59, 60, 61, 62, 63, 64, 2] [qR (.pointer (some ⟨gf, 0, none⟩)),
      qR (.pointer (some ⟨gf, 0, none⟩)),
      qR (.pointer (some ⟨gf, 5, none⟩)),
      qR (.slice (some ⟨g0, 0, none⟩) (ws.length + 80) (ws.length + 80)),
      qR (.pointer (some ⟨gf, 0, none⟩)),
      qR (.pointer (some ⟨gf, 0, none⟩)),
      qR (.pointer (some ⟨gf, 0, none⟩)),
      qR (.pointer (some ⟨gf, 0, none⟩)),
      qR (.slice aw ws.length cw),
      qR (.bool true),
      qR (.bool true),
      qR (.pointer (some ⟨gf, 0, none⟩)),
      qR (.pointer (some ⟨gf, 0, none⟩)),
      qR (.pointer (some ⟨gf, 6, none⟩)),
      qR (.slice (some ⟨g1, 0, none⟩) (ms.length + 80) (ms.length + 80)),
      qR (.pointer (some ⟨gf, 0, none⟩)),
      qR (.pointer (some ⟨gf, 0, none⟩)),
      qR (.pointer (some ⟨gf, 0, none⟩)),
      qR (.pointer (some ⟨gf, 1, none⟩)),
      qR (.slice am ms.length cm),
      qR (.agg #[.int .i64 (-7), .int .i64 0, .int .i64 0]),
      qR (.bool true),
      qR (.bool true),
      qR (.bool true),
      qR (.pointer (some ⟨gf, 0, none⟩)),
      qR (.pointer (some ⟨gf, 0, none⟩)),
      qR (.pointer (some ⟨gf, 7, none⟩)),
      qR (.slice (some ⟨g2, 0, none⟩) (A.length + 80) (A.length + 80)),
      qR (.pointer (some ⟨gf, 0, none⟩)),
      qR (.pointer (some ⟨gf, 0, none⟩)),
      qR (.pointer (some ⟨gf, 0, none⟩)),
      qR (.pointer (some ⟨gf, 2, none⟩)),
      qR (.slice a A.length ca),
      qR (.agg #[.int .i32 (-7), .int .i32 0]),
      qR (.bool true),
      qR (.bool true),
      qR (.bool true),
      qR (.pointer (some ⟨gf, 0, none⟩)),
      qR (.pointer (some ⟨gf, 0, none⟩)),
      qR (.pointer (some ⟨gf, 8, none⟩)),
      qR (.slice (some ⟨g3, 0, none⟩) (B.length + 80) (B.length + 80)),
      qR (.pointer (some ⟨gf, 0, none⟩)),
      qR (.pointer (some ⟨gf, 0, none⟩)),
      qR (.pointer (some ⟨gf, 0, none⟩)),
      qR (.pointer (some ⟨gf, 3, none⟩)),
      qR (.slice b B.length cb),
      qR (.agg #[.int .i32 (-7), .int .i32 0]),
      qR (.bool true),
      qR (.bool true),
      qR (.bool true),
      qR (.pointer (some ⟨gf, 0, none⟩)),
      qR (.pointer (some ⟨gf, 0, none⟩)),
      qR (.pointer (some ⟨gf, 9, none⟩)),
      qR (.slice (some ⟨g4, 0, none⟩) (C.length + 80) (C.length + 80)),
      qR (.pointer (some ⟨gf, 0, none⟩)),
      qR (.pointer (some ⟨gf, 0, none⟩)),
      qR (.pointer (some ⟨gf, 0, none⟩)),
      qR (.pointer (some ⟨gf, 4, none⟩)),
      qR (.slice c C.length cc),
      qR (.agg #[.int .i32 (-7), .int .i32 0]),
      qR (.bool true),
      qR (.bool true),
      qR (.bool true)] (by kernel_rfl) (by kernel_rfl) rfl rfl ?stab ?steps ?fin
  case stab =>
    intro φ hφ
    simp only [List.mem_cons, List.not_mem_nil, or_false] at hφ
    rcases hφ with rfl | rfl | rfl | rfl | rfl | rfl | rfl | rfl | rfl | rfl | rfl | rfl | rfl | rfl | rfl | rfl | rfl | rfl | rfl | rfl | rfl | rfl | rfl | rfl | rfl | rfl | rfl | rfl | rfl | rfl | rfl | rfl | rfl | rfl | rfl | rfl | rfl | rfl | rfl | rfl | rfl | rfl | rfl | rfl | rfl | rfl | rfl | rfl | rfl | rfl | rfl | rfl | rfl | rfl | rfl | rfl | rfl | rfl | rfl | rfl | rfl | rfl | rfl
    · exact fun _ _ _ _ h => h
    · exact fun _ _ _ _ h => h
    · exact fun _ _ _ _ h => h
    · exact fun _ _ _ _ h => h
    · exact fun _ _ _ _ h => h
    · exact fun _ _ _ _ h => h
    · exact fun _ _ _ _ h => h
    · exact fun _ _ _ _ h => h
    · exact fun _ _ _ _ h => h
    · exact fun _ _ _ _ h => h
    · exact fun _ _ _ _ h => h
    · exact fun _ _ _ _ h => h
    · exact fun _ _ _ _ h => h
    · exact fun _ _ _ _ h => h
    · exact fun _ _ _ _ h => h
    · exact fun _ _ _ _ h => h
    · exact fun _ _ _ _ h => h
    · exact fun _ _ _ _ h => h
    · exact fun _ _ _ _ h => h
    · exact fun _ _ _ _ h => h
    · exact fun _ _ _ _ h => h
    · exact fun _ _ _ _ h => h
    · exact fun _ _ _ _ h => h
    · exact fun _ _ _ _ h => h
    · exact fun _ _ _ _ h => h
    · exact fun _ _ _ _ h => h
    · exact fun _ _ _ _ h => h
    · exact fun _ _ _ _ h => h
    · exact fun _ _ _ _ h => h
    · exact fun _ _ _ _ h => h
    · exact fun _ _ _ _ h => h
    · exact fun _ _ _ _ h => h
    · exact fun _ _ _ _ h => h
    · exact fun _ _ _ _ h => h
    · exact fun _ _ _ _ h => h
    · exact fun _ _ _ _ h => h
    · exact fun _ _ _ _ h => h
    · exact fun _ _ _ _ h => h
    · exact fun _ _ _ _ h => h
    · exact fun _ _ _ _ h => h
    · exact fun _ _ _ _ h => h
    · exact fun _ _ _ _ h => h
    · exact fun _ _ _ _ h => h
    · exact fun _ _ _ _ h => h
    · exact fun _ _ _ _ h => h
    · exact fun _ _ _ _ h => h
    · exact fun _ _ _ _ h => h
    · exact fun _ _ _ _ h => h
    · exact fun _ _ _ _ h => h
    · exact fun _ _ _ _ h => h
    · exact fun _ _ _ _ h => h
    · exact fun _ _ _ _ h => h
    · exact fun _ _ _ _ h => h
    · exact fun _ _ _ _ h => h
    · exact fun _ _ _ _ h => h
    · exact fun _ _ _ _ h => h
    · exact fun _ _ _ _ h => h
    · exact fun _ _ _ _ h => h
    · exact fun _ _ _ _ h => h
    · exact fun _ _ _ _ h => h
    · exact fun _ _ _ _ h => h
    · exact fun _ _ _ _ h => h
    · exact fun _ _ _ _ h => h
  case steps =>
    have hBx : ∀ wx, Below w.drew.heap.size w.drew wx → Below w.heap.size w wx := fun wx hb => ⟨hb.os, hb.tape, hb.output, hb.size, hb.block⟩
    refine ⟨?_, ?_, ?_, ?_, ?_, ?_, ?_, ?_, ?_, ?_, ?_, ?_, ?_, ?_, ?_, ?_, ?_, ?_, ?_, ?_, ?_, ?_, ?_, ?_, ?_, ?_, ?_, ?_, ?_, ?_, ?_, ?_, ?_, ?_, ?_, ?_, ?_, ?_, ?_, ?_, ?_, ?_, ?_, ?_, ?_, ?_, ?_, ?_, ?_, ?_, ?_, ?_, ?_, ?_, ?_, ?_, ?_, ?_, ?_, ?_, ?_, ?_, ?_, trivial⟩
    · intro a' he wx hb hd
      have e0 : a'.eval (.tmp 0) = .pointer (some ⟨gf, 0, none⟩) := he.get rfl
      exact mStep_read rfl (by simp [execOp, e0]) rfl
    · intro a' he wx hb hd
      have e0 : a'.eval (.tmp 3) = .pointer (some ⟨gf, 0, none⟩) := hd 0 rfl _ _ rfl rfl
      refine mStep_read rfl ?_ rfl
      simp only [execOp, e0]
      go_simp
    · intro a' he wx hb hd
      have e0 : a'.eval (.tmp 4) = .pointer (some ⟨gf, 0, none⟩) := hd 1 rfl _ _ rfl rfl
      refine mStep_read rfl ?_ rfl
      simp only [execOp, e0]
      go_simp
    · intro a' he wx hb hd
      have e0 : a'.eval (.tmp 5) = .pointer (some ⟨gf, 5, none⟩) := hd 2 rfl _ _ rfl rfl
      have c := (hF.up (hBx wx hb)).cell 5
      refine mStep_read rfl ?_ rfl
      simp only [execOp, e0]
      go_simp
    · intro a' he wx hb hd
      have e0 : a'.eval (.tmp 0) = .pointer (some ⟨gf, 0, none⟩) := he.get rfl
      exact mStep_read rfl (by simp [execOp, e0]) rfl
    · intro a' he wx hb hd
      have e0 : a'.eval (.tmp 7) = .pointer (some ⟨gf, 0, none⟩) := hd 4 rfl _ _ rfl rfl
      refine mStep_read rfl ?_ rfl
      simp only [execOp, e0]
      go_simp
    · intro a' he wx hb hd
      have e0 : a'.eval (.tmp 8) = .pointer (some ⟨gf, 0, none⟩) := hd 5 rfl _ _ rfl rfl
      refine mStep_read rfl ?_ rfl
      simp only [execOp, e0]
      go_simp
    · intro a' he wx hb hd
      have e0 : a'.eval (.tmp 9) = .pointer (some ⟨gf, 0, none⟩) := hd 6 rfl _ _ rfl rfl
      refine mStep_read rfl ?_ rfl
      simp only [execOp, e0]
      go_simp
    · intro a' he wx hb hd
      have e0 : a'.eval (.tmp 10) = .pointer (some ⟨gf, 0, none⟩) := hd 7 rfl _ _ rfl rfl
      have c := (hF.up (hBx wx hb)).cell 0
      refine mStep_read rfl ?_ rfl
      simp only [execOp, e0]
      go_simp
    · intro a' he wx hb hd
      have e0 : a'.eval (.tmp 6) = .slice (some ⟨g0, 0, none⟩) (ws.length + 80) (ws.length + 80) := hd 3 rfl _ _ rfl rfl
      have e1 : a'.eval (.tmp 11) = .slice aw ws.length cw := hd 8 rfl _ _ rfl rfl
      exact mStep_call rfl (by simp [execOp, e0, e1, resolve]; rfl) (C0 wx (hBx wx hb))
    · intro a' he wx hb hd
      have e0 : a'.eval (.tmp 12) = .bool true := hd 9 rfl _ _ rfl rfl
      exact mStep_read rfl (by simp [execOp, e0]) rfl
    · intro a' he wx hb hd
      have e0 : a'.eval (.tmp 0) = .pointer (some ⟨gf, 0, none⟩) := he.get rfl
      exact mStep_read_on rfl rfl rfl (hd 10 rfl _ _ rfl rfl) (by simp [execOp, e0]) rfl
    · intro a' he wx hb hd
      have e0 : a'.eval (.tmp 14) = .pointer (some ⟨gf, 0, none⟩) := hd 11 rfl _ _ rfl rfl
      refine mStep_read_on rfl rfl rfl (hd 10 rfl _ _ rfl rfl) ?_ rfl
      simp only [execOp, e0]
      go_simp
    · intro a' he wx hb hd
      have e0 : a'.eval (.tmp 15) = .pointer (some ⟨gf, 0, none⟩) := hd 12 rfl _ _ rfl rfl
      refine mStep_read_on rfl rfl rfl (hd 10 rfl _ _ rfl rfl) ?_ rfl
      simp only [execOp, e0]
      go_simp
    · intro a' he wx hb hd
      have e0 : a'.eval (.tmp 16) = .pointer (some ⟨gf, 6, none⟩) := hd 13 rfl _ _ rfl rfl
      have c := (hF.up (hBx wx hb)).cell 6
      refine mStep_read_on rfl rfl rfl (hd 10 rfl _ _ rfl rfl) ?_ rfl
      simp only [execOp, e0]
      go_simp
    · intro a' he wx hb hd
      have e0 : a'.eval (.tmp 0) = .pointer (some ⟨gf, 0, none⟩) := he.get rfl
      exact mStep_read_on rfl rfl rfl (hd 10 rfl _ _ rfl rfl) (by simp [execOp, e0]) rfl
    · intro a' he wx hb hd
      have e0 : a'.eval (.tmp 18) = .pointer (some ⟨gf, 0, none⟩) := hd 15 rfl _ _ rfl rfl
      refine mStep_read_on rfl rfl rfl (hd 10 rfl _ _ rfl rfl) ?_ rfl
      simp only [execOp, e0]
      go_simp
    · intro a' he wx hb hd
      have e0 : a'.eval (.tmp 19) = .pointer (some ⟨gf, 0, none⟩) := hd 16 rfl _ _ rfl rfl
      refine mStep_read_on rfl rfl rfl (hd 10 rfl _ _ rfl rfl) ?_ rfl
      simp only [execOp, e0]
      go_simp
    · intro a' he wx hb hd
      have e0 : a'.eval (.tmp 20) = .pointer (some ⟨gf, 0, none⟩) := hd 17 rfl _ _ rfl rfl
      refine mStep_read_on rfl rfl rfl (hd 10 rfl _ _ rfl rfl) ?_ rfl
      simp only [execOp, e0]
      go_simp
    · intro a' he wx hb hd
      have e0 : a'.eval (.tmp 21) = .pointer (some ⟨gf, 1, none⟩) := hd 18 rfl _ _ rfl rfl
      have c := (hF.up (hBx wx hb)).cell 1
      refine mStep_read_on rfl rfl rfl (hd 10 rfl _ _ rfl rfl) ?_ rfl
      simp only [execOp, e0]
      go_simp
    · intro a' he wx hb hd
      exact mStep_read_on rfl rfl rfl (hd 10 rfl _ _ rfl rfl) (by kernel_rfl) rfl
    · intro a' he wx hb hd
      have e0 : a'.eval (.tmp 17) = .slice (some ⟨g1, 0, none⟩) (ms.length + 80) (ms.length + 80) := hd 14 rfl _ _ rfl rfl
      have e1 : a'.eval (.tmp 22) = .slice am ms.length cm := hd 19 rfl _ _ rfl rfl
      have e2 : a'.eval (.tmp 23) = .agg #[.int .i64 (-7), .int .i64 0, .int .i64 0] := hd 20 rfl _ _ rfl rfl
      exact mStep_call_on rfl rfl rfl (hd 10 rfl _ _ rfl rfl) (by simp [execOp, e0, e1, e2, resolve]; rfl) (C1 wx (hBx wx hb))
    · intro a' he wx hb hd
      have e0 : a'.eval (.tmp 13) = .bool true := hd 10 rfl _ _ rfl rfl
      have e1 : a'.eval (.tmp 24) = .bool true := hd 21 rfl _ _ rfl rfl
      refine mStep_read rfl ?_ rfl
      simp only [execOp, e0, e1]
      go_simp
    · intro a' he wx hb hd
      have e0 : a'.eval (.tmp 25) = .bool true := hd 22 rfl _ _ rfl rfl
      exact mStep_read rfl (by simp [execOp, e0]) rfl
    · intro a' he wx hb hd
      have e0 : a'.eval (.tmp 0) = .pointer (some ⟨gf, 0, none⟩) := he.get rfl
      exact mStep_read_on rfl rfl rfl (hd 23 rfl _ _ rfl rfl) (by simp [execOp, e0]) rfl
    · intro a' he wx hb hd
      have e0 : a'.eval (.tmp 27) = .pointer (some ⟨gf, 0, none⟩) := hd 24 rfl _ _ rfl rfl
      refine mStep_read_on rfl rfl rfl (hd 23 rfl _ _ rfl rfl) ?_ rfl
      simp only [execOp, e0]
      go_simp
    · intro a' he wx hb hd
      have e0 : a'.eval (.tmp 28) = .pointer (some ⟨gf, 0, none⟩) := hd 25 rfl _ _ rfl rfl
      refine mStep_read_on rfl rfl rfl (hd 23 rfl _ _ rfl rfl) ?_ rfl
      simp only [execOp, e0]
      go_simp
    · intro a' he wx hb hd
      have e0 : a'.eval (.tmp 29) = .pointer (some ⟨gf, 7, none⟩) := hd 26 rfl _ _ rfl rfl
      have c := (hF.up (hBx wx hb)).cell 7
      refine mStep_read_on rfl rfl rfl (hd 23 rfl _ _ rfl rfl) ?_ rfl
      simp only [execOp, e0]
      go_simp
    · intro a' he wx hb hd
      have e0 : a'.eval (.tmp 0) = .pointer (some ⟨gf, 0, none⟩) := he.get rfl
      exact mStep_read_on rfl rfl rfl (hd 23 rfl _ _ rfl rfl) (by simp [execOp, e0]) rfl
    · intro a' he wx hb hd
      have e0 : a'.eval (.tmp 31) = .pointer (some ⟨gf, 0, none⟩) := hd 28 rfl _ _ rfl rfl
      refine mStep_read_on rfl rfl rfl (hd 23 rfl _ _ rfl rfl) ?_ rfl
      simp only [execOp, e0]
      go_simp
    · intro a' he wx hb hd
      have e0 : a'.eval (.tmp 32) = .pointer (some ⟨gf, 0, none⟩) := hd 29 rfl _ _ rfl rfl
      refine mStep_read_on rfl rfl rfl (hd 23 rfl _ _ rfl rfl) ?_ rfl
      simp only [execOp, e0]
      go_simp
    · intro a' he wx hb hd
      have e0 : a'.eval (.tmp 33) = .pointer (some ⟨gf, 0, none⟩) := hd 30 rfl _ _ rfl rfl
      refine mStep_read_on rfl rfl rfl (hd 23 rfl _ _ rfl rfl) ?_ rfl
      simp only [execOp, e0]
      go_simp
    · intro a' he wx hb hd
      have e0 : a'.eval (.tmp 34) = .pointer (some ⟨gf, 2, none⟩) := hd 31 rfl _ _ rfl rfl
      have c := (hF.up (hBx wx hb)).cell 2
      refine mStep_read_on rfl rfl rfl (hd 23 rfl _ _ rfl rfl) ?_ rfl
      simp only [execOp, e0]
      go_simp
    · intro a' he wx hb hd
      exact mStep_read_on rfl rfl rfl (hd 23 rfl _ _ rfl rfl) (by kernel_rfl) rfl
    · intro a' he wx hb hd
      have e0 : a'.eval (.tmp 30) = .slice (some ⟨g2, 0, none⟩) (A.length + 80) (A.length + 80) := hd 27 rfl _ _ rfl rfl
      have e1 : a'.eval (.tmp 35) = .slice a A.length ca := hd 32 rfl _ _ rfl rfl
      have e2 : a'.eval (.tmp 36) = .agg #[.int .i32 (-7), .int .i32 0] := hd 33 rfl _ _ rfl rfl
      exact mStep_call_on rfl rfl rfl (hd 23 rfl _ _ rfl rfl) (by simp [execOp, e0, e1, e2, resolve]; rfl) (C2 wx (hBx wx hb))
    · intro a' he wx hb hd
      have e0 : a'.eval (.tmp 26) = .bool true := hd 23 rfl _ _ rfl rfl
      have e1 : a'.eval (.tmp 37) = .bool true := hd 34 rfl _ _ rfl rfl
      refine mStep_read rfl ?_ rfl
      simp only [execOp, e0, e1]
      go_simp
    · intro a' he wx hb hd
      have e0 : a'.eval (.tmp 38) = .bool true := hd 35 rfl _ _ rfl rfl
      exact mStep_read rfl (by simp [execOp, e0]) rfl
    · intro a' he wx hb hd
      have e0 : a'.eval (.tmp 0) = .pointer (some ⟨gf, 0, none⟩) := he.get rfl
      exact mStep_read_on rfl rfl rfl (hd 36 rfl _ _ rfl rfl) (by simp [execOp, e0]) rfl
    · intro a' he wx hb hd
      have e0 : a'.eval (.tmp 40) = .pointer (some ⟨gf, 0, none⟩) := hd 37 rfl _ _ rfl rfl
      refine mStep_read_on rfl rfl rfl (hd 36 rfl _ _ rfl rfl) ?_ rfl
      simp only [execOp, e0]
      go_simp
    · intro a' he wx hb hd
      have e0 : a'.eval (.tmp 41) = .pointer (some ⟨gf, 0, none⟩) := hd 38 rfl _ _ rfl rfl
      refine mStep_read_on rfl rfl rfl (hd 36 rfl _ _ rfl rfl) ?_ rfl
      simp only [execOp, e0]
      go_simp
    · intro a' he wx hb hd
      have e0 : a'.eval (.tmp 42) = .pointer (some ⟨gf, 8, none⟩) := hd 39 rfl _ _ rfl rfl
      have c := (hF.up (hBx wx hb)).cell 8
      refine mStep_read_on rfl rfl rfl (hd 36 rfl _ _ rfl rfl) ?_ rfl
      simp only [execOp, e0]
      go_simp
    · intro a' he wx hb hd
      have e0 : a'.eval (.tmp 0) = .pointer (some ⟨gf, 0, none⟩) := he.get rfl
      exact mStep_read_on rfl rfl rfl (hd 36 rfl _ _ rfl rfl) (by simp [execOp, e0]) rfl
    · intro a' he wx hb hd
      have e0 : a'.eval (.tmp 44) = .pointer (some ⟨gf, 0, none⟩) := hd 41 rfl _ _ rfl rfl
      refine mStep_read_on rfl rfl rfl (hd 36 rfl _ _ rfl rfl) ?_ rfl
      simp only [execOp, e0]
      go_simp
    · intro a' he wx hb hd
      have e0 : a'.eval (.tmp 45) = .pointer (some ⟨gf, 0, none⟩) := hd 42 rfl _ _ rfl rfl
      refine mStep_read_on rfl rfl rfl (hd 36 rfl _ _ rfl rfl) ?_ rfl
      simp only [execOp, e0]
      go_simp
    · intro a' he wx hb hd
      have e0 : a'.eval (.tmp 46) = .pointer (some ⟨gf, 0, none⟩) := hd 43 rfl _ _ rfl rfl
      refine mStep_read_on rfl rfl rfl (hd 36 rfl _ _ rfl rfl) ?_ rfl
      simp only [execOp, e0]
      go_simp
    · intro a' he wx hb hd
      have e0 : a'.eval (.tmp 47) = .pointer (some ⟨gf, 3, none⟩) := hd 44 rfl _ _ rfl rfl
      have c := (hF.up (hBx wx hb)).cell 3
      refine mStep_read_on rfl rfl rfl (hd 36 rfl _ _ rfl rfl) ?_ rfl
      simp only [execOp, e0]
      go_simp
    · intro a' he wx hb hd
      exact mStep_read_on rfl rfl rfl (hd 36 rfl _ _ rfl rfl) (by kernel_rfl) rfl
    · intro a' he wx hb hd
      have e0 : a'.eval (.tmp 43) = .slice (some ⟨g3, 0, none⟩) (B.length + 80) (B.length + 80) := hd 40 rfl _ _ rfl rfl
      have e1 : a'.eval (.tmp 48) = .slice b B.length cb := hd 45 rfl _ _ rfl rfl
      have e2 : a'.eval (.tmp 49) = .agg #[.int .i32 (-7), .int .i32 0] := hd 46 rfl _ _ rfl rfl
      exact mStep_call_on rfl rfl rfl (hd 36 rfl _ _ rfl rfl) (by simp [execOp, e0, e1, e2, resolve]; rfl) (C3 wx (hBx wx hb))
    · intro a' he wx hb hd
      have e0 : a'.eval (.tmp 39) = .bool true := hd 36 rfl _ _ rfl rfl
      have e1 : a'.eval (.tmp 50) = .bool true := hd 47 rfl _ _ rfl rfl
      refine mStep_read rfl ?_ rfl
      simp only [execOp, e0, e1]
      go_simp
    · intro a' he wx hb hd
      have e0 : a'.eval (.tmp 51) = .bool true := hd 48 rfl _ _ rfl rfl
      exact mStep_read rfl (by simp [execOp, e0]) rfl
    · intro a' he wx hb hd
      have e0 : a'.eval (.tmp 0) = .pointer (some ⟨gf, 0, none⟩) := he.get rfl
      exact mStep_read_on rfl rfl rfl (hd 49 rfl _ _ rfl rfl) (by simp [execOp, e0]) rfl
    · intro a' he wx hb hd
      have e0 : a'.eval (.tmp 53) = .pointer (some ⟨gf, 0, none⟩) := hd 50 rfl _ _ rfl rfl
      refine mStep_read_on rfl rfl rfl (hd 49 rfl _ _ rfl rfl) ?_ rfl
      simp only [execOp, e0]
      go_simp
    · intro a' he wx hb hd
      have e0 : a'.eval (.tmp 54) = .pointer (some ⟨gf, 0, none⟩) := hd 51 rfl _ _ rfl rfl
      refine mStep_read_on rfl rfl rfl (hd 49 rfl _ _ rfl rfl) ?_ rfl
      simp only [execOp, e0]
      go_simp
    · intro a' he wx hb hd
      have e0 : a'.eval (.tmp 55) = .pointer (some ⟨gf, 9, none⟩) := hd 52 rfl _ _ rfl rfl
      have c := (hF.up (hBx wx hb)).cell 9
      refine mStep_read_on rfl rfl rfl (hd 49 rfl _ _ rfl rfl) ?_ rfl
      simp only [execOp, e0]
      go_simp
    · intro a' he wx hb hd
      have e0 : a'.eval (.tmp 0) = .pointer (some ⟨gf, 0, none⟩) := he.get rfl
      exact mStep_read_on rfl rfl rfl (hd 49 rfl _ _ rfl rfl) (by simp [execOp, e0]) rfl
    · intro a' he wx hb hd
      have e0 : a'.eval (.tmp 57) = .pointer (some ⟨gf, 0, none⟩) := hd 54 rfl _ _ rfl rfl
      refine mStep_read_on rfl rfl rfl (hd 49 rfl _ _ rfl rfl) ?_ rfl
      simp only [execOp, e0]
      go_simp
    · intro a' he wx hb hd
      have e0 : a'.eval (.tmp 58) = .pointer (some ⟨gf, 0, none⟩) := hd 55 rfl _ _ rfl rfl
      refine mStep_read_on rfl rfl rfl (hd 49 rfl _ _ rfl rfl) ?_ rfl
      simp only [execOp, e0]
      go_simp
    · intro a' he wx hb hd
      have e0 : a'.eval (.tmp 59) = .pointer (some ⟨gf, 0, none⟩) := hd 56 rfl _ _ rfl rfl
      refine mStep_read_on rfl rfl rfl (hd 49 rfl _ _ rfl rfl) ?_ rfl
      simp only [execOp, e0]
      go_simp
    · intro a' he wx hb hd
      have e0 : a'.eval (.tmp 60) = .pointer (some ⟨gf, 4, none⟩) := hd 57 rfl _ _ rfl rfl
      have c := (hF.up (hBx wx hb)).cell 4
      refine mStep_read_on rfl rfl rfl (hd 49 rfl _ _ rfl rfl) ?_ rfl
      simp only [execOp, e0]
      go_simp
    · intro a' he wx hb hd
      exact mStep_read_on rfl rfl rfl (hd 49 rfl _ _ rfl rfl) (by kernel_rfl) rfl
    · intro a' he wx hb hd
      have e0 : a'.eval (.tmp 56) = .slice (some ⟨g4, 0, none⟩) (C.length + 80) (C.length + 80) := hd 53 rfl _ _ rfl rfl
      have e1 : a'.eval (.tmp 61) = .slice c C.length cc := hd 58 rfl _ _ rfl rfl
      have e2 : a'.eval (.tmp 62) = .agg #[.int .i32 (-7), .int .i32 0] := hd 59 rfl _ _ rfl rfl
      exact mStep_call_on rfl rfl rfl (hd 49 rfl _ _ rfl rfl) (by simp [execOp, e0, e1, e2, resolve]; rfl) (C4 wx (hBx wx hb))
    · intro a' he wx hb hd
      have e0 : a'.eval (.tmp 52) = .bool true := hd 49 rfl _ _ rfl rfl
      have e1 : a'.eval (.tmp 63) = .bool true := hd 60 rfl _ _ rfl rfl
      refine mStep_read rfl ?_ rfl
      simp only [execOp, e0, e1]
      go_simp
    · intro a' he wx hb hd
      have e0 : a'.eval (.tmp 64) = .bool true := hd 61 rfl _ _ rfl rfl
      exact mStep_read rfl (by simp [execOp, e0]) rfl
  case fin =>
    rintro wx hb _ rfl _ rfl _ rfl _ rfl _ rfl _ rfl _ rfl _ rfl _ rfl _ rfl _ rfl _ rfl _ rfl _ rfl _ rfl _ rfl _ rfl _ rfl _ rfl _ rfl _ rfl _ rfl _ rfl _ rfl _ rfl _ rfl _ rfl _ rfl _ rfl _ rfl _ rfl _ rfl _ rfl _ rfl _ rfl _ rfl _ rfl _ rfl _ rfl _ rfl _ rfl _ rfl _ rfl _ rfl _ rfl _ rfl _ rfl _ rfl _ rfl _ rfl _ rfl _ rfl _ rfl _ rfl _ rfl _ rfl _ rfl _ rfl _ rfl _ rfl _ rfl _ rfl _ rfl
    simp only [finV, Act.put, List.setIfInBounds_toArray, List.set_cons_succ, List.set_cons_zero, List.drop_succ_cons, List.drop_zero]
    have hb5 : Below w.heap.size w wx := ⟨hb.os, hb.tape, hb.output, hb.size, hb.block⟩
    clear C0 C1 C2 C3 C4 hF HF hb
    go_wp2_with fail
    go_ret
    exact ⟨rfl, hb5⟩
end Go.Proofs.YtlnebbciefdpoaaDoor
