import Derived.Test.YtonbfcpbgkpbaaaDoorJ12
import Derived.Test.YtonbfcpbgkpbaaaDoorJ6
import Derived.Test.YtonbfcpbgkpbaaaDoorJ8
import Derived.Test.YtonbfcpbgkpbaaaDoorRows
import Derived.ProofKit
import Derived.LaidMore
import Derived.OpenShut
import Derived.Stop.Joined
section
/- tesseralaw7.RecipeNumbers: the walk. -/
namespace Go.Proofs.YtonbfcpbgkpbaaaDoor
open Go.RowKit Go.Sort Go.Joins
set_option linter.unusedVariables false
set_option linter.unusedSimpArgs false
set_option maxRecDepth 100000
theorem noText_eq : textOf noText = ⟨#[108, 101, 116, 116, 101, 114, 115, 32, 123, 32, 125, 10, 110, 117, 109, 98, 101, 114, 115, 32, 123, 32, 125, 10, 115, 112, 97, 99, 101, 115, 32, 123, 32, 125, 10]⟩ := by kernel_rfl
set_option maxHeartbeats 8000000 in
theorem numbers_walk (w : World) : Calls Tryd.prog 3 #[] w fun e w' => e = .returned (.bool true) ∧ Below w.heap.size w w' := by
  obtain ⟨Z, S, hS, hmk, hcv⟩ := zeros_make 4194305 (by omega) (by omega)
  have R8 := r8 S (by omega) (by omega)
  have HMK := Lib.hid hmk
  have HCV := Lib.hid hcv
  clear hmk hcv hS
  have hP := fun wx => print_no wx
  rw [noText_eq] at hP
  have hD := DBox.new w (.slice none 0 0) (.slice none 0 0) (.slice none 0 0) (.slice none 0 0) (.slice none 0 0)
  have hb0 := box_below w (.cells #[.slice none 0 0, .slice none 0 0, .slice none 0 0, .slice none 0 0, .slice none 0 0] 26)
  obtain ⟨Y, hY⟩ : ∃ Y, Y = w.alloc (.cells #[.slice none 0 0, .slice none 0 0, .slice none 0 0, .slice none 0 0, .slice none 0 0] 26) := ⟨_, rfl⟩
  rw [← hY] at hb0 hD
  have HY := Lib.hid hY
  have HB0 := Lib.hid hb0
  clear hY hb0
  obtain ⟨z, hz⟩ : ∃ z, z = w.heap.size := ⟨_, rfl⟩
  have HZ := Lib.hid hz
  rw [← hz] at hD
  clear hz
  have HD := Lib.hid hD
  have x0 := hD.c0
  have x1 := hD.c1
  have x2 := hD.c2
  have x3 := hD.c3
  have x4 := hD.c4
  clear hD
  go_enter Tryd.func3, Tryd.ntmps3
  go_upto_region 2 with fail
  rw [← HY.out, ← HZ.out]
  clear HY
  go_wp2_with fail
  refine (hP Y).mono ?_
  rintro e w1 ⟨rfl, hb1⟩
  have hD1 := HD.out.below hb1 HD.out.lt
  have HB1 := Lib.hid (HB0.out.trans (hb1.mono HB0.out.size))
  have HD1 := Lib.hid hD1
  clear x0 x1 x2 x3 x4 hD1 hb1 hP HB0 HD
  go_wp2_with fail
  refine (print_words _ _ _).mono ?_
  rintro e w2 ⟨rfl, hb2⟩
  have hbb2 := (box_below w1 (.cells #[.string ⟨#[97, 98]⟩] 9)).trans (hb2.mono (by simp))
  have HB2 := Lib.hid (HB1.out.trans (hbb2.mono HB1.out.size))
  have HD2 := Lib.hid (HD1.out.below hbb2 HD1.out.lt)
  clear hbb2 hb2 HB1 HD1
  go_wp2_with fail
  refine (print_runes _ _ (heap_alloc_new w2 _)).mono ?_
  rintro e w3 ⟨rfl, hb3⟩
  have hbb3 := (box_below w2 (.cells #[.int .i32 (-1), .int .i32 4] 31)).trans (hb3.mono (by simp))
  have HB3 := Lib.hid (HB2.out.trans (hbb3.mono HB2.out.size))
  have HD3 := Lib.hid (HD2.out.below hbb3 HD2.out.lt)
  clear hbb3 hb3 HB2 HD2
  go_upto_region 5 with fail
  simp only [List.append_eq, List.cons_append, List.nil_append]
  have hD3 := HD3.out
  have C0 := fun (wx : World) (_ : Below w3.heap.size w3 wx) => (r0 wx).mono (fun e w' h => (⟨.bool true, h.1, h.2, rfl⟩ : ∃ v, e = .returned v ∧ Below wx.heap.size wx w' ∧ v = .bool true))
  have C1 := fun (wx : World) (_ : Below w3.heap.size w3 wx) => (r1 wx).mono (fun e w' h => (⟨.bool true, h.1, h.2, rfl⟩ : ∃ v, e = .returned v ∧ Below wx.heap.size wx w' ∧ v = .bool true))
  have C2 := fun (wx : World) (_ : Below w3.heap.size w3 wx) => (r2 wx).mono (fun e w' h => (⟨.bool true, h.1, h.2, rfl⟩ : ∃ v, e = .returned v ∧ Below wx.heap.size wx w' ∧ v = .bool true))
  have C3 := fun (wx : World) (_ : Below w3.heap.size w3 wx) => (r3 wx).mono (fun e w' h => (⟨.bool true, h.1, h.2, rfl⟩ : ∃ v, e = .returned v ∧ Below wx.heap.size wx w' ∧ v = .bool true))
  have C4 := fun (wx : World) (_ : Below w3.heap.size w3 wx) => (r4 wx).mono (fun e w' h => (⟨.bool true, h.1, h.2, rfl⟩ : ∃ v, e = .returned v ∧ Below wx.heap.size wx w' ∧ v = .bool true))
  have C5 := fun (wx : World) (_ : Below w3.heap.size w3 wx) => (r5 wx).mono (fun e w' h => (⟨.bool true, h.1, h.2, rfl⟩ : ∃ v, e = .returned v ∧ Below wx.heap.size wx w' ∧ v = .bool true))
  have C6 := fun (wx : World) (_ : Below w3.heap.size w3 wx) => (r6 wx).mono (fun e w' h => (⟨.bool true, h.1, h.2, rfl⟩ : ∃ v, e = .returned v ∧ Below wx.heap.size wx w' ∧ v = .bool true))
  have C7 := fun (wx : World) (_ : Below w3.heap.size w3 wx) => (r7 wx).mono (fun e w' h => (⟨.bool true, h.1, h.2, rfl⟩ : ∃ v, e = .returned v ∧ Below wx.heap.size wx w' ∧ v = .bool true))
  have C8 := fun (wx : World) (_ : Below w3.heap.size w3 wx) => (R8 wx).mono (fun e w' h => (⟨.bool true, h.1, h.2, rfl⟩ : ∃ v, e = .returned v ∧ Below wx.heap.size wx w' ∧ v = .bool true))
  have C9 := fun (wx : World) (_ : Below w3.heap.size w3 wx) => (known_any wx).mono (fun e w' h => (⟨.bool true, h.1, h.2, rfl⟩ : ∃ v, e = .returned v ∧ Below wx.heap.size wx w' ∧ v = .bool true))
  have hmk : ∀ u : World, (Instr.makeSlice 35 (.int .i64 4194305) (.int .i64 4194305)).run Tryd.prog u = .ok (.slice (some ⟨u.heap.size, 0, none⟩) 4194305 4194305) (u.alloc (.cells Z 5)) := HMK.out
  have hcv := HCV.out
  clear HMK HCV
  refine wp_region_mono 65 [27, 28, 29, 30, 31, 32, 33, 34, 35, 36, 37, 38, 39, 40, 41, 42, 43, 44, 45, 46, 47, 48, 49, 50, 51, 52, 53, 54, 55, 56, 57, 58, 59, 60, 61, 62, 63, 64, 65, 66, 67, 68, 69, 70, 71, 72, 73, 74, 75, 76, 77, 78, 79, 80, 81, 82, 83, 84, 85, 86, 87, 88, 89, 90, 0] [qR (.int .i64 0),
      qR (.bool true),
      qR (.bool true),
      qR (.string ⟨#[108, 101, 116, 116, 101, 114, 115, 32, 123, 32, 125, 10, 110, 117, 109, 98, 101, 114, 115, 32, 123, 32, 125, 10, 115, 112, 97, 99, 101, 115, 32, 123, 32, 125, 10]⟩),
      qR (.bool true),
      qR (.bool true),
      qR (.bool true),
      qR (.int .i64 21),
      qR (.bool true),
      qR (.bool true),
      qR (.bool true),
      qR (.int .i64 14),
      qR (.bool true),
      qR (.bool true),
      qR (.bool true),
      qR (.agg #[.slice none 0 0, .slice none 0 0, .slice none 0 0, .slice none 0 0, .slice none 0 0]),
      qR (.agg #[.int .i64 0, .int .i64 0, .int .i64 0]),
      qR (.bool true),
      qR (.bool true),
      qR (.bool true),
      qR (.agg #[.slice none 0 0, .slice none 0 0, .slice none 0 0, .slice none 0 0, .slice none 0 0]),
      qR (.agg #[.int .i64 6, .int .i64 1, .int .i64 7]),
      qR (.bool true),
      qR (.bool true),
      qR (.bool true),
      qR (.agg #[.slice none 0 0, .slice none 0 0, .slice none 0 0, .slice none 0 0, .slice none 0 0]),
      qR (.agg #[.int .i64 18, .int .i64 1, .int .i64 19]),
      qR (.bool true),
      qR (.bool true),
      qR (.bool true),
      qR (.agg #[.slice none 0 0, .slice none 0 0, .slice none 0 0, .slice none 0 0, .slice none 0 0]),
      qR (.agg #[.int .i64 18, .int .i64 1, .int .i64 19]),
      qR (.bool true),
      qR (.bool true),
      qR (.bool true),
      qR (.agg #[.slice none 0 0, .slice none 0 0, .slice none 0 0, .slice none 0 0, .slice none 0 0]),
      qR (.agg #[.int .i64 10, .int .i64 1, .int .i64 11]),
      qR (.bool true),
      qR (.bool true),
      qR (.bool true),
      qR (.agg #[.slice none 0 0, .slice none 0 0, .slice none 0 0, .slice none 0 0, .slice none 0 0]),
      qR (.agg #[.int .i64 8, .int .i64 1, .int .i64 9]),
      qR (.bool true),
      qR (.bool true),
      qR (.bool true),
      qR (.agg #[.slice none 0 0, .slice none 0 0, .slice none 0 0, .slice none 0 0, .slice none 0 0]),
      qR (.agg #[.int .i64 6, .int .i64 1, .int .i64 7]),
      qR (.bool true),
      qR (.bool true),
      qR (.bool true),
      qR (.agg #[.slice none 0 0, .slice none 0 0, .slice none 0 0, .slice none 0 0, .slice none 0 0]),
      qR (.agg #[.int .i64 27, .int .i64 1, .int .i64 28]),
      qR (.bool true),
      qR (.bool true),
      qR (.bool true),
      fun v wx => ∃ gy, v = .slice (some ⟨gy, 0, none⟩) 4194305 4194305 ∧ wx.heap[gy]? = some (.cells Z 5 (0, 0)),
      qR (.string S),
      qR (.agg #[.slice none 0 0, .slice none 0 0, .slice none 0 0, .slice none 0 0, .slice none 0 0]),
      qR (.agg #[.int .i64 0, .int .i64 1, .int .i64 1]),
      qR (.bool true),
      qR (.bool true),
      qR (.bool true),
      qR (.bool true),
      qR (.bool true),
      qR (.bool true)] (by kernel_rfl) (by kernel_rfl) rfl rfl ?stab ?steps ?fin
  case stab =>
    intro φ hφ
    simp only [List.mem_cons, List.not_mem_nil, or_false] at hφ
    rcases hφ with rfl | rfl | rfl | rfl | rfl | rfl | rfl | rfl | rfl | rfl | rfl | rfl | rfl | rfl | rfl | rfl | rfl | rfl | rfl | rfl | rfl | rfl | rfl | rfl | rfl | rfl | rfl | rfl | rfl | rfl | rfl | rfl | rfl | rfl | rfl | rfl | rfl | rfl | rfl | rfl | rfl | rfl | rfl | rfl | rfl | rfl | rfl | rfl | rfl | rfl | rfl | rfl | rfl | rfl | rfl | rfl | rfl | rfl | rfl | rfl | rfl | rfl | rfl | rfl | rfl
    · exact fun _ _ _ _ h => h
    · exact fun _ _ _ _ h => h
    · exact fun _ _ _ _ h => h
    · exact fun _ _ _ _ h => h
    · exact fun _ _ _ _ h => h
    · exact fun _ _ _ _ h => h
    · exact fun _ _ _ _ h => h
    · exact fun _ _ _ _ h => h
    · exact fun _ _ _ _ h => h
    · exact fun _ _ _ _ h => h
    · exact fun _ _ _ _ h => h
    · exact fun _ _ _ _ h => h
    · exact fun _ _ _ _ h => h
    · exact fun _ _ _ _ h => h
    · exact fun _ _ _ _ h => h
    · exact fun _ _ _ _ h => h
    · exact fun _ _ _ _ h => h
    · exact fun _ _ _ _ h => h
    · exact fun _ _ _ _ h => h
    · exact fun _ _ _ _ h => h
    · exact fun _ _ _ _ h => h
    · exact fun _ _ _ _ h => h
    · exact fun _ _ _ _ h => h
    · exact fun _ _ _ _ h => h
    · exact fun _ _ _ _ h => h
    · exact fun _ _ _ _ h => h
    · exact fun _ _ _ _ h => h
    · exact fun _ _ _ _ h => h
    · exact fun _ _ _ _ h => h
    · exact fun _ _ _ _ h => h
    · exact fun _ _ _ _ h => h
    · exact fun _ _ _ _ h => h
    · exact fun _ _ _ _ h => h
    · exact fun _ _ _ _ h => h
    · exact fun _ _ _ _ h => h
    · exact fun _ _ _ _ h => h
    · exact fun _ _ _ _ h => h
    · exact fun _ _ _ _ h => h
    · exact fun _ _ _ _ h => h
    · exact fun _ _ _ _ h => h
    · exact fun _ _ _ _ h => h
    · exact fun _ _ _ _ h => h
    · exact fun _ _ _ _ h => h
    · exact fun _ _ _ _ h => h
    · exact fun _ _ _ _ h => h
    · exact fun _ _ _ _ h => h
    · exact fun _ _ _ _ h => h
    · exact fun _ _ _ _ h => h
    · exact fun _ _ _ _ h => h
    · exact fun _ _ _ _ h => h
    · exact fun _ _ _ _ h => h
    · exact fun _ _ _ _ h => h
    · exact fun _ _ _ _ h => h
    · exact fun _ _ _ _ h => h
    · exact fun _ _ _ _ h => h
    · rintro v wx w' hb ⟨gy, h1, h2⟩
      exact ⟨gy, h1, (hb.block gy (Array.getElem?_eq_some_iff.1 h2).1).trans h2⟩
    · exact fun _ _ _ _ h => h
    · exact fun _ _ _ _ h => h
    · exact fun _ _ _ _ h => h
    · exact fun _ _ _ _ h => h
    · exact fun _ _ _ _ h => h
    · exact fun _ _ _ _ h => h
    · exact fun _ _ _ _ h => h
    · exact fun _ _ _ _ h => h
    · exact fun _ _ _ _ h => h
  case steps =>
    have hBx : ∀ wx, Below w3.drew.heap.size w3.drew wx → Below w3.heap.size w3 wx := fun wx hb => ⟨hb.os, hb.tape, hb.output, hb.size, hb.block⟩
    refine ⟨?_, ?_, ?_, ?_, ?_, ?_, ?_, ?_, ?_, ?_, ?_, ?_, ?_, ?_, ?_, ?_, ?_, ?_, ?_, ?_, ?_, ?_, ?_, ?_, ?_, ?_, ?_, ?_, ?_, ?_, ?_, ?_, ?_, ?_, ?_, ?_, ?_, ?_, ?_, ?_, ?_, ?_, ?_, ?_, ?_, ?_, ?_, ?_, ?_, ?_, ?_, ?_, ?_, ?_, ?_, ?_, ?_, ?_, ?_, ?_, ?_, ?_, ?_, ?_, ?_, trivial⟩
    · intro a' he wx hb hd
      have e0 : a'.eval (.tmp 3) = .int .i64 0 := he.get rfl
      exact mStep_read rfl (by simp [execOp, e0]) rfl
    · intro a' he wx hb hd
      have e0 : a'.eval (.tmp 27) = .int .i64 0 := hd 0 rfl _ _ rfl rfl
      refine mStep_read rfl ?_ rfl
      first | (simp [execOp, e0]; done) | (simp [execOp, e0]; go_simp; done) | (simp [execOp, e0, resolve]; go_simp; done) | (simp only [execOp, e0]; go_simp)
    · intro a' he wx hb hd
      have e0 : a'.eval (.tmp 28) = .bool true := hd 1 rfl _ _ rfl rfl
      exact mStep_read rfl (by simp [execOp, e0]) rfl
    · intro a' he wx hb hd
      have e0 : a'.eval (.tmp 2) = .string ⟨#[108, 101, 116, 116, 101, 114, 115, 32, 123, 32, 125, 10, 110, 117, 109, 98, 101, 114, 115, 32, 123, 32, 125, 10, 115, 112, 97, 99, 101, 115, 32, 123, 32, 125, 10]⟩ := he.get rfl
      exact mStep_read_on rfl rfl rfl (hd 2 rfl _ _ rfl rfl) (by simp [execOp, e0]) rfl
    · intro a' he wx hb hd
      have e0 : a'.eval (.tmp 30) = .string ⟨#[108, 101, 116, 116, 101, 114, 115, 32, 123, 32, 125, 10, 110, 117, 109, 98, 101, 114, 115, 32, 123, 32, 125, 10, 115, 112, 97, 99, 101, 115, 32, 123, 32, 125, 10]⟩ := hd 3 rfl _ _ rfl rfl
      refine mStep_read_on rfl rfl rfl (hd 2 rfl _ _ rfl rfl) ?_ rfl
      first | (simp [execOp, e0]; done) | (simp [execOp, e0]; go_simp; done) | (simp [execOp, e0, resolve]; go_simp; done) | (simp only [execOp, e0]; go_simp)
    · intro a' he wx hb hd
      have e0 : a'.eval (.tmp 29) = .bool true := hd 2 rfl _ _ rfl rfl
      have e1 : a'.eval (.tmp 31) = .bool true := hd 4 rfl _ _ rfl rfl
      refine mStep_read rfl ?_ rfl
      simp only [execOp, e0, e1]
      go_simp
    · intro a' he wx hb hd
      have e0 : a'.eval (.tmp 32) = .bool true := hd 5 rfl _ _ rfl rfl
      exact mStep_read rfl (by simp [execOp, e0]) rfl
    · intro a' he wx hb hd
      have e0 : a'.eval (.tmp 5) = .int .i64 21 := he.get rfl
      exact mStep_read_on rfl rfl rfl (hd 6 rfl _ _ rfl rfl) (by simp [execOp, e0]) rfl
    · intro a' he wx hb hd
      have e0 : a'.eval (.tmp 34) = .int .i64 21 := hd 7 rfl _ _ rfl rfl
      refine mStep_read_on rfl rfl rfl (hd 6 rfl _ _ rfl rfl) ?_ rfl
      first | (simp [execOp, e0]; done) | (simp [execOp, e0]; go_simp; done) | (simp [execOp, e0, resolve]; go_simp; done) | (simp only [execOp, e0]; go_simp)
    · intro a' he wx hb hd
      have e0 : a'.eval (.tmp 33) = .bool true := hd 6 rfl _ _ rfl rfl
      have e1 : a'.eval (.tmp 35) = .bool true := hd 8 rfl _ _ rfl rfl
      refine mStep_read rfl ?_ rfl
      simp only [execOp, e0, e1]
      go_simp
    · intro a' he wx hb hd
      have e0 : a'.eval (.tmp 36) = .bool true := hd 9 rfl _ _ rfl rfl
      exact mStep_read rfl (by simp [execOp, e0]) rfl
    · intro a' he wx hb hd
      have e0 : a'.eval (.tmp 7) = .int .i64 14 := he.get rfl
      exact mStep_read_on rfl rfl rfl (hd 10 rfl _ _ rfl rfl) (by simp [execOp, e0]) rfl
    · intro a' he wx hb hd
      have e0 : a'.eval (.tmp 38) = .int .i64 14 := hd 11 rfl _ _ rfl rfl
      refine mStep_read_on rfl rfl rfl (hd 10 rfl _ _ rfl rfl) ?_ rfl
      first | (simp [execOp, e0]; done) | (simp [execOp, e0]; go_simp; done) | (simp [execOp, e0, resolve]; go_simp; done) | (simp only [execOp, e0]; go_simp)
    · intro a' he wx hb hd
      have e0 : a'.eval (.tmp 37) = .bool true := hd 10 rfl _ _ rfl rfl
      have e1 : a'.eval (.tmp 39) = .bool true := hd 12 rfl _ _ rfl rfl
      refine mStep_read rfl ?_ rfl
      simp only [execOp, e0, e1]
      go_simp
    · intro a' he wx hb hd
      have e0 : a'.eval (.tmp 40) = .bool true := hd 13 rfl _ _ rfl rfl
      exact mStep_read rfl (by simp [execOp, e0]) rfl
    · intro a' he wx hb hd
      have e0 : a'.eval (.tmp 1) = .pointer (some ⟨z, 0, none⟩) := he.get rfl
      have hDx := hD3.below (hBx wx hb) hD3.lt
      have c0 := hDx.c0
      have c1 := hDx.c1
      have c2 := hDx.c2
      have c3 := hDx.c3
      have c4 := hDx.c4
      refine mStep_read_on rfl rfl rfl (hd 14 rfl _ _ rfl rfl) ?_ rfl
      simp only [execOp, e0]
      go_simp
    · intro a' he wx hb hd
      refine mStep_read_on rfl rfl rfl (hd 14 rfl _ _ rfl rfl) ?_ rfl
      first | (simp [execOp]; done) | (simp [execOp]; go_simp; done) | (simp [execOp, resolve]; go_simp; done) | (simp only [execOp]; go_simp)
    · intro a' he wx hb hd
      have e0 : a'.eval (.tmp 42) = .agg #[.slice none 0 0, .slice none 0 0, .slice none 0 0, .slice none 0 0, .slice none 0 0] := hd 15 rfl _ _ rfl rfl
      have e1 : a'.eval (.tmp 43) = .agg #[.int .i64 0, .int .i64 0, .int .i64 0] := hd 16 rfl _ _ rfl rfl
      exact mStep_call_on rfl rfl rfl (hd 14 rfl _ _ rfl rfl) (by simp [execOp, e0, e1, resolve]; rfl) (C0 wx (hBx wx hb))
    · intro a' he wx hb hd
      have e0 : a'.eval (.tmp 41) = .bool true := hd 14 rfl _ _ rfl rfl
      have e1 : a'.eval (.tmp 44) = .bool true := hd 17 rfl _ _ rfl rfl
      refine mStep_read rfl ?_ rfl
      simp only [execOp, e0, e1]
      go_simp
    · intro a' he wx hb hd
      have e0 : a'.eval (.tmp 45) = .bool true := hd 18 rfl _ _ rfl rfl
      exact mStep_read rfl (by simp [execOp, e0]) rfl
    · intro a' he wx hb hd
      have e0 : a'.eval (.tmp 1) = .pointer (some ⟨z, 0, none⟩) := he.get rfl
      have hDx := hD3.below (hBx wx hb) hD3.lt
      have c0 := hDx.c0
      have c1 := hDx.c1
      have c2 := hDx.c2
      have c3 := hDx.c3
      have c4 := hDx.c4
      refine mStep_read_on rfl rfl rfl (hd 19 rfl _ _ rfl rfl) ?_ rfl
      simp only [execOp, e0]
      go_simp
    · intro a' he wx hb hd
      refine mStep_read_on rfl rfl rfl (hd 19 rfl _ _ rfl rfl) ?_ rfl
      first | (simp [execOp]; done) | (simp [execOp]; go_simp; done) | (simp [execOp, resolve]; go_simp; done) | (simp only [execOp]; go_simp)
    · intro a' he wx hb hd
      have e0 : a'.eval (.tmp 47) = .agg #[.slice none 0 0, .slice none 0 0, .slice none 0 0, .slice none 0 0, .slice none 0 0] := hd 20 rfl _ _ rfl rfl
      have e1 : a'.eval (.tmp 48) = .agg #[.int .i64 6, .int .i64 1, .int .i64 7] := hd 21 rfl _ _ rfl rfl
      exact mStep_call_on rfl rfl rfl (hd 19 rfl _ _ rfl rfl) (by simp [execOp, e0, e1, resolve]; rfl) (C1 wx (hBx wx hb))
    · intro a' he wx hb hd
      have e0 : a'.eval (.tmp 46) = .bool true := hd 19 rfl _ _ rfl rfl
      have e1 : a'.eval (.tmp 49) = .bool true := hd 22 rfl _ _ rfl rfl
      refine mStep_read rfl ?_ rfl
      simp only [execOp, e0, e1]
      go_simp
    · intro a' he wx hb hd
      have e0 : a'.eval (.tmp 50) = .bool true := hd 23 rfl _ _ rfl rfl
      exact mStep_read rfl (by simp [execOp, e0]) rfl
    · intro a' he wx hb hd
      have e0 : a'.eval (.tmp 1) = .pointer (some ⟨z, 0, none⟩) := he.get rfl
      have hDx := hD3.below (hBx wx hb) hD3.lt
      have c0 := hDx.c0
      have c1 := hDx.c1
      have c2 := hDx.c2
      have c3 := hDx.c3
      have c4 := hDx.c4
      refine mStep_read_on rfl rfl rfl (hd 24 rfl _ _ rfl rfl) ?_ rfl
      simp only [execOp, e0]
      go_simp
    · intro a' he wx hb hd
      refine mStep_read_on rfl rfl rfl (hd 24 rfl _ _ rfl rfl) ?_ rfl
      first | (simp [execOp]; done) | (simp [execOp]; go_simp; done) | (simp [execOp, resolve]; go_simp; done) | (simp only [execOp]; go_simp)
    · intro a' he wx hb hd
      have e0 : a'.eval (.tmp 52) = .agg #[.slice none 0 0, .slice none 0 0, .slice none 0 0, .slice none 0 0, .slice none 0 0] := hd 25 rfl _ _ rfl rfl
      have e1 : a'.eval (.tmp 53) = .agg #[.int .i64 18, .int .i64 1, .int .i64 19] := hd 26 rfl _ _ rfl rfl
      exact mStep_call_on rfl rfl rfl (hd 24 rfl _ _ rfl rfl) (by simp [execOp, e0, e1, resolve]; rfl) (C2 wx (hBx wx hb))
    · intro a' he wx hb hd
      have e0 : a'.eval (.tmp 51) = .bool true := hd 24 rfl _ _ rfl rfl
      have e1 : a'.eval (.tmp 54) = .bool true := hd 27 rfl _ _ rfl rfl
      refine mStep_read rfl ?_ rfl
      simp only [execOp, e0, e1]
      go_simp
    · intro a' he wx hb hd
      have e0 : a'.eval (.tmp 55) = .bool true := hd 28 rfl _ _ rfl rfl
      exact mStep_read rfl (by simp [execOp, e0]) rfl
    · intro a' he wx hb hd
      have e0 : a'.eval (.tmp 1) = .pointer (some ⟨z, 0, none⟩) := he.get rfl
      have hDx := hD3.below (hBx wx hb) hD3.lt
      have c0 := hDx.c0
      have c1 := hDx.c1
      have c2 := hDx.c2
      have c3 := hDx.c3
      have c4 := hDx.c4
      refine mStep_read_on rfl rfl rfl (hd 29 rfl _ _ rfl rfl) ?_ rfl
      simp only [execOp, e0]
      go_simp
    · intro a' he wx hb hd
      refine mStep_read_on rfl rfl rfl (hd 29 rfl _ _ rfl rfl) ?_ rfl
      first | (simp [execOp]; done) | (simp [execOp]; go_simp; done) | (simp [execOp, resolve]; go_simp; done) | (simp only [execOp]; go_simp)
    · intro a' he wx hb hd
      have e0 : a'.eval (.tmp 57) = .agg #[.slice none 0 0, .slice none 0 0, .slice none 0 0, .slice none 0 0, .slice none 0 0] := hd 30 rfl _ _ rfl rfl
      have e1 : a'.eval (.tmp 58) = .agg #[.int .i64 18, .int .i64 1, .int .i64 19] := hd 31 rfl _ _ rfl rfl
      exact mStep_call_on rfl rfl rfl (hd 29 rfl _ _ rfl rfl) (by simp [execOp, e0, e1, resolve]; rfl) (C3 wx (hBx wx hb))
    · intro a' he wx hb hd
      have e0 : a'.eval (.tmp 56) = .bool true := hd 29 rfl _ _ rfl rfl
      have e1 : a'.eval (.tmp 59) = .bool true := hd 32 rfl _ _ rfl rfl
      refine mStep_read rfl ?_ rfl
      simp only [execOp, e0, e1]
      go_simp
    · intro a' he wx hb hd
      have e0 : a'.eval (.tmp 60) = .bool true := hd 33 rfl _ _ rfl rfl
      exact mStep_read rfl (by simp [execOp, e0]) rfl
    · intro a' he wx hb hd
      have e0 : a'.eval (.tmp 1) = .pointer (some ⟨z, 0, none⟩) := he.get rfl
      have hDx := hD3.below (hBx wx hb) hD3.lt
      have c0 := hDx.c0
      have c1 := hDx.c1
      have c2 := hDx.c2
      have c3 := hDx.c3
      have c4 := hDx.c4
      refine mStep_read_on rfl rfl rfl (hd 34 rfl _ _ rfl rfl) ?_ rfl
      simp only [execOp, e0]
      go_simp
    · intro a' he wx hb hd
      refine mStep_read_on rfl rfl rfl (hd 34 rfl _ _ rfl rfl) ?_ rfl
      first | (simp [execOp]; done) | (simp [execOp]; go_simp; done) | (simp [execOp, resolve]; go_simp; done) | (simp only [execOp]; go_simp)
    · intro a' he wx hb hd
      have e0 : a'.eval (.tmp 62) = .agg #[.slice none 0 0, .slice none 0 0, .slice none 0 0, .slice none 0 0, .slice none 0 0] := hd 35 rfl _ _ rfl rfl
      have e1 : a'.eval (.tmp 63) = .agg #[.int .i64 10, .int .i64 1, .int .i64 11] := hd 36 rfl _ _ rfl rfl
      exact mStep_call_on rfl rfl rfl (hd 34 rfl _ _ rfl rfl) (by simp [execOp, e0, e1, resolve]; rfl) (C4 wx (hBx wx hb))
    · intro a' he wx hb hd
      have e0 : a'.eval (.tmp 61) = .bool true := hd 34 rfl _ _ rfl rfl
      have e1 : a'.eval (.tmp 64) = .bool true := hd 37 rfl _ _ rfl rfl
      refine mStep_read rfl ?_ rfl
      simp only [execOp, e0, e1]
      go_simp
    · intro a' he wx hb hd
      have e0 : a'.eval (.tmp 65) = .bool true := hd 38 rfl _ _ rfl rfl
      exact mStep_read rfl (by simp [execOp, e0]) rfl
    · intro a' he wx hb hd
      have e0 : a'.eval (.tmp 1) = .pointer (some ⟨z, 0, none⟩) := he.get rfl
      have hDx := hD3.below (hBx wx hb) hD3.lt
      have c0 := hDx.c0
      have c1 := hDx.c1
      have c2 := hDx.c2
      have c3 := hDx.c3
      have c4 := hDx.c4
      refine mStep_read_on rfl rfl rfl (hd 39 rfl _ _ rfl rfl) ?_ rfl
      simp only [execOp, e0]
      go_simp
    · intro a' he wx hb hd
      refine mStep_read_on rfl rfl rfl (hd 39 rfl _ _ rfl rfl) ?_ rfl
      first | (simp [execOp]; done) | (simp [execOp]; go_simp; done) | (simp [execOp, resolve]; go_simp; done) | (simp only [execOp]; go_simp)
    · intro a' he wx hb hd
      have e0 : a'.eval (.tmp 67) = .agg #[.slice none 0 0, .slice none 0 0, .slice none 0 0, .slice none 0 0, .slice none 0 0] := hd 40 rfl _ _ rfl rfl
      have e1 : a'.eval (.tmp 68) = .agg #[.int .i64 8, .int .i64 1, .int .i64 9] := hd 41 rfl _ _ rfl rfl
      exact mStep_call_on rfl rfl rfl (hd 39 rfl _ _ rfl rfl) (by simp [execOp, e0, e1, resolve]; rfl) (C5 wx (hBx wx hb))
    · intro a' he wx hb hd
      have e0 : a'.eval (.tmp 66) = .bool true := hd 39 rfl _ _ rfl rfl
      have e1 : a'.eval (.tmp 69) = .bool true := hd 42 rfl _ _ rfl rfl
      refine mStep_read rfl ?_ rfl
      simp only [execOp, e0, e1]
      go_simp
    · intro a' he wx hb hd
      have e0 : a'.eval (.tmp 70) = .bool true := hd 43 rfl _ _ rfl rfl
      exact mStep_read rfl (by simp [execOp, e0]) rfl
    · intro a' he wx hb hd
      have e0 : a'.eval (.tmp 1) = .pointer (some ⟨z, 0, none⟩) := he.get rfl
      have hDx := hD3.below (hBx wx hb) hD3.lt
      have c0 := hDx.c0
      have c1 := hDx.c1
      have c2 := hDx.c2
      have c3 := hDx.c3
      have c4 := hDx.c4
      refine mStep_read_on rfl rfl rfl (hd 44 rfl _ _ rfl rfl) ?_ rfl
      simp only [execOp, e0]
      go_simp
    · intro a' he wx hb hd
      refine mStep_read_on rfl rfl rfl (hd 44 rfl _ _ rfl rfl) ?_ rfl
      first | (simp [execOp]; done) | (simp [execOp]; go_simp; done) | (simp [execOp, resolve]; go_simp; done) | (simp only [execOp]; go_simp)
    · intro a' he wx hb hd
      have e0 : a'.eval (.tmp 72) = .agg #[.slice none 0 0, .slice none 0 0, .slice none 0 0, .slice none 0 0, .slice none 0 0] := hd 45 rfl _ _ rfl rfl
      have e1 : a'.eval (.tmp 73) = .agg #[.int .i64 6, .int .i64 1, .int .i64 7] := hd 46 rfl _ _ rfl rfl
      exact mStep_call_on rfl rfl rfl (hd 44 rfl _ _ rfl rfl) (by simp [execOp, e0, e1, resolve]; rfl) (C6 wx (hBx wx hb))
    · intro a' he wx hb hd
      have e0 : a'.eval (.tmp 71) = .bool true := hd 44 rfl _ _ rfl rfl
      have e1 : a'.eval (.tmp 74) = .bool true := hd 47 rfl _ _ rfl rfl
      refine mStep_read rfl ?_ rfl
      simp only [execOp, e0, e1]
      go_simp
    · intro a' he wx hb hd
      have e0 : a'.eval (.tmp 75) = .bool true := hd 48 rfl _ _ rfl rfl
      exact mStep_read rfl (by simp [execOp, e0]) rfl
    · intro a' he wx hb hd
      have e0 : a'.eval (.tmp 1) = .pointer (some ⟨z, 0, none⟩) := he.get rfl
      have hDx := hD3.below (hBx wx hb) hD3.lt
      have c0 := hDx.c0
      have c1 := hDx.c1
      have c2 := hDx.c2
      have c3 := hDx.c3
      have c4 := hDx.c4
      refine mStep_read_on rfl rfl rfl (hd 49 rfl _ _ rfl rfl) ?_ rfl
      simp only [execOp, e0]
      go_simp
    · intro a' he wx hb hd
      refine mStep_read_on rfl rfl rfl (hd 49 rfl _ _ rfl rfl) ?_ rfl
      first | (simp [execOp]; done) | (simp [execOp]; go_simp; done) | (simp [execOp, resolve]; go_simp; done) | (simp only [execOp]; go_simp)
    · intro a' he wx hb hd
      have e0 : a'.eval (.tmp 77) = .agg #[.slice none 0 0, .slice none 0 0, .slice none 0 0, .slice none 0 0, .slice none 0 0] := hd 50 rfl _ _ rfl rfl
      have e1 : a'.eval (.tmp 78) = .agg #[.int .i64 27, .int .i64 1, .int .i64 28] := hd 51 rfl _ _ rfl rfl
      exact mStep_call_on rfl rfl rfl (hd 49 rfl _ _ rfl rfl) (by simp [execOp, e0, e1, resolve]; rfl) (C7 wx (hBx wx hb))
    · intro a' he wx hb hd
      have e0 : a'.eval (.tmp 76) = .bool true := hd 49 rfl _ _ rfl rfl
      have e1 : a'.eval (.tmp 79) = .bool true := hd 52 rfl _ _ rfl rfl
      refine mStep_read rfl ?_ rfl
      simp only [execOp, e0, e1]
      go_simp
    · intro a' he wx hb hd
      have e0 : a'.eval (.tmp 80) = .bool true := hd 53 rfl _ _ rfl rfl
      exact mStep_read rfl (by simp [execOp, e0]) rfl
    · intro a' he wx hb hd
      refine mStep_val_on rfl rfl rfl (hd 54 rfl _ _ rfl rfl) ?_ (box_below wx (.cells Z 5)) ⟨_, rfl, heap_alloc_new _ _⟩
      have hev : ∀ v, a'.eval (.const v) = v := fun _ => rfl
      simp [execOp, hev, hmk]
    · intro a' he wx hb hd
      have e0 := hd 55 rfl _ _ rfl rfl
      obtain ⟨gy, e0, hz⟩ := e0
      have hc := hcv wx gy hz
      refine mStep_read_on rfl rfl rfl (hd 54 rfl _ _ rfl rfl) ?_ rfl
      simp [execOp, e0, hc, Result.andThen]
    · intro a' he wx hb hd
      have e0 : a'.eval (.tmp 1) = .pointer (some ⟨z, 0, none⟩) := he.get rfl
      have hDx := hD3.below (hBx wx hb) hD3.lt
      have c0 := hDx.c0
      have c1 := hDx.c1
      have c2 := hDx.c2
      have c3 := hDx.c3
      have c4 := hDx.c4
      refine mStep_read_on rfl rfl rfl (hd 54 rfl _ _ rfl rfl) ?_ rfl
      simp only [execOp, e0]
      go_simp
    · intro a' he wx hb hd
      refine mStep_read_on rfl rfl rfl (hd 54 rfl _ _ rfl rfl) ?_ rfl
      first | (simp [execOp]; done) | (simp [execOp]; go_simp; done) | (simp [execOp, resolve]; go_simp; done) | (simp only [execOp]; go_simp)
    · intro a' he wx hb hd
      have e0 : a'.eval (.tmp 83) = .string S := hd 56 rfl _ _ rfl rfl
      have e1 : a'.eval (.tmp 84) = .agg #[.slice none 0 0, .slice none 0 0, .slice none 0 0, .slice none 0 0, .slice none 0 0] := hd 57 rfl _ _ rfl rfl
      have e2 : a'.eval (.tmp 85) = .agg #[.int .i64 0, .int .i64 1, .int .i64 1] := hd 58 rfl _ _ rfl rfl
      exact mStep_call_on rfl rfl rfl (hd 54 rfl _ _ rfl rfl) (by simp [execOp, e0, e1, e2, resolve]; rfl) (C8 wx (hBx wx hb))
    · intro a' he wx hb hd
      have e0 : a'.eval (.tmp 81) = .bool true := hd 54 rfl _ _ rfl rfl
      have e1 : a'.eval (.tmp 86) = .bool true := hd 59 rfl _ _ rfl rfl
      refine mStep_read rfl ?_ rfl
      simp only [execOp, e0, e1]
      go_simp
    · intro a' he wx hb hd
      have e0 : a'.eval (.tmp 87) = .bool true := hd 60 rfl _ _ rfl rfl
      exact mStep_read rfl (by simp [execOp, e0]) rfl
    · intro a' he wx hb hd
      exact mStep_call_on rfl rfl rfl (hd 61 rfl _ _ rfl rfl) (by simp [execOp, resolve]; rfl) (C9 wx (hBx wx hb))
    · intro a' he wx hb hd
      have e0 : a'.eval (.tmp 88) = .bool true := hd 61 rfl _ _ rfl rfl
      have e1 : a'.eval (.tmp 89) = .bool true := hd 62 rfl _ _ rfl rfl
      refine mStep_read rfl ?_ rfl
      simp only [execOp, e0, e1]
      go_simp
    · intro a' he wx hb hd
      have e0 : a'.eval (.tmp 90) = .bool true := hd 63 rfl _ _ rfl rfl
      exact mStep_read rfl (by simp [execOp, e0]) rfl
  case fin =>
    rintro wx hb _ rfl _ rfl _ rfl _ rfl _ rfl _ rfl _ rfl _ rfl _ rfl _ rfl _ rfl _ rfl _ rfl _ rfl _ rfl _ rfl _ rfl _ rfl _ rfl _ rfl _ rfl _ rfl _ rfl _ rfl _ rfl _ rfl _ rfl _ rfl _ rfl _ rfl _ rfl _ rfl _ rfl _ rfl _ rfl _ rfl _ rfl _ rfl _ rfl _ rfl _ rfl _ rfl _ rfl _ rfl _ rfl _ rfl _ rfl _ rfl _ rfl _ rfl _ rfl _ rfl _ rfl _ rfl _ rfl u82 p82 _ rfl _ rfl _ rfl _ rfl _ rfl _ rfl _ rfl _ rfl _ rfl
    simp only [finV, Act.put, List.setIfInBounds_toArray, List.set_cons_succ, List.set_cons_zero, List.drop_succ_cons, List.drop_zero]
    have hb5 : Below w3.heap.size w3 wx := ⟨hb.os, hb.tape, hb.output, hb.size, hb.block⟩
    have B6 := HB3.out.trans (hb5.mono HB3.out.size)
    clear C0 C1 C2 C3 C4 C5 C6 C7 C8 C9 hmk hcv HD3 hD3 HB3 hb hb5
    go_wp2_with fail
    go_ret
    exact ⟨rfl, B6⟩
end Go.Proofs.YtonbfcpbgkpbaaaDoor
end
section
/- What the row's condition lists (three tables of the library): the door's own heap meets it. -/
namespace Go.Proofs.YtonbfcpbgkpbaaaDoor
open Go.ChangeShapes Go.WideShapes Go.ChangeAt Go.WideMaps Go.WideElems Go.RowKit
theorem own : ownKnob Tryd.prog.godebug = none := by kernel_rfl
theorem laidOut : laidOutB Tryd.prog = true := by kernel_rfl
/-- The condition's list. -/
abbrev laids : List (String × DataW Unit) := [("math/bits.deBruijn32tab", Rows.laid_math_bits_deBruijn32tab), ("math/bits.deBruijn64tab", Rows.laid_math_bits_deBruijn64tab), ("internal/strconv.uint64pow10", Rows.laid_internal_strconv_uint64pow10)]
/-- The door's own heap meets the condition. -/
theorem door_met (os : Os) (args : Array Value) : laidMetH Tryd.prog laids ((World.doorLaid Tryd.prog 400 os).forCall (fun _ _ => 0) ⟨#[], args, []⟩).memory :=
  laidMetH_of_parts3 (fuel := 8) (laidMet_of_run' 8 (by kernel_rfl) (by kernel_rfl)) (by kernel_rfl) (by kernel_rfl)
end Go.Proofs.YtonbfcpbgkpbaaaDoor
end
