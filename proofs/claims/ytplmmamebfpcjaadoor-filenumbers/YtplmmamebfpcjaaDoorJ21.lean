import Derived.Test.YtplmmamebfpcjaaDoorJ20
import Derived.Lib.Strings
import Derived.Test.YtplmmamebfpcjaaDoorJ10
import Derived.Test.YtplmmamebfpcjaaDoorJ11
import Derived.Test.YtplmmamebfpcjaaDoorJ13
section
/- tesseralaw6.refused, sameErr: their contracts. -/
namespace Go.Proofs.YtplmmamebfpcjaaDoor
open Go.RowKit Go.Sort Go.Joins Go.Extern.Stop Go.Stop Go.Extern
set_option linter.unusedVariables false
set_option maxRecDepth 100000
theorem assertRef (v : Value) (w : World) : (Instr.typeAssert (.iface 55 v) 27 55 true).run Tryd.prog w = .ok (.tuple #[v, .bool true]) w := by
  simp [Instr.typeAssert, run_underlying Tryd.underlying55, typeInfo]
theorem sameErr_eq (w : World) (k : Int) : Calls Tryd.prog 19 #[.iface 34 (.int .i64 k), .iface 34 (.int .i64 k)] w fun e w' => e = .returned (.bool true) ∧ w' = w := by
  have heq := errEq k k
  go_enter Tryd.func19, Tryd.ntmps19
  go_wp2
  go_ret
  exact ⟨by simp, rfl⟩
theorem refused_nil (w : World) (a : Int) : Calls Tryd.prog 7 #[.nilIface, .agg #[.int .i64 a, .int .i64 0]] w fun e w' => e = .returned (.bool true) ∧ Below w.heap.size w w' := by
  have hb := box_below w (.cells #[.int .i64 a, .int .i64 0] 32 (0, 0))
  go_enter Tryd.func7, Tryd.ntmps7
  go_wp2
  go_ret
  exact ⟨rfl, hb⟩
set_option maxHeartbeats 4000000 in
theorem refused_true (w : World) (N : Nat) (r : Er) (hR : Rf w N r) (h0 : r.2 ≠ 0) (h1 : r.1 ≤ 9223372036854775807) (h2 : r.2 ≤ 9223372036854775807) (hP : PT w) :
    Calls Tryd.prog 7 #[.iface 55 (.pointer (some ⟨N, 0, none⟩)), .agg #[.int .i64 (r.1 : Nat), .int .i64 (r.2 : Nat)]] w fun e w' => e = .returned (.bool true) ∧ Below w.heap.size w w' := by
  have b1 := box_below w (.cells #[.int .i64 (r.1 : Nat), .int .i64 (r.2 : Nat)] 32 (0, 0))
  have hZ := Blk.new w (.cells #[.int .i64 (r.1 : Nat), .int .i64 (r.2 : Nat)] 32 (0, 0))
  have x1 := hZ.cell 1
  have hta := assertRef (.pointer (some ⟨N, 0, none⟩))
  have h0' : ¬ ((r.2 : Int) = 0) := by omega
  go_enter Tryd.func7, Tryd.ntmps7
  go_wp2_with fail
  obtain ⟨U, hU⟩ : ∃ U, U = w.alloc (.cells #[.int .i64 (r.1 : Nat), .int .i64 (r.2 : Nat)] 32 (0, 0)) := ⟨_, rfl⟩
  rw [← hU] at b1 hZ ⊢
  clear hU x1
  obtain ⟨z, hz⟩ : ∃ z, z = w.heap.size := ⟨_, rfl⟩
  have HZ : Hid (z = w.heap.size) := hz
  rw [← hz] at hZ ⊢
  clear hz
  have hR := hR.below b1 hR.lt
  have hP := hP.stays b1
  have HU := fun wx (hb : Below U.heap.size U wx) => (unwrap_any wx N (r.2 : Nat) (hR.below hb hR.lt).c1).mono (R' := fun e w' => ∃ v, e = .returned v ∧ Below wx.heap.size wx w' ∧ qR (.iface 34 (.int .i64 (r.2 : Nat))) v w') (by rintro e w' ⟨q1, rfl⟩; exact ⟨_, q1, Below.refl _ _, rfl⟩)
  have HE := fun wx (hb : Below U.heap.size U wx) => error_any wx N r (hR.below hb hR.lt) h1 h2 (hP.stays hb)
  have HS := fun wx (hb : Below U.heap.size U wx) => (sameErr_eq wx (r.2 : Nat)).mono (R' := fun e w' => ∃ v, e = .returned v ∧ Below wx.heap.size wx w' ∧ qR (.bool true) v w') (by rintro e w' ⟨q1, rfl⟩; exact ⟨_, q1, Below.refl _ _, rfl⟩)
  have HX := fun wx (hb : Below U.heap.size U wx) => (is_ref wx N (r.2 : Nat) (hR.below hb hR.lt).c1).mono (R' := fun e w' => ∃ v, e = .returned v ∧ Below wx.heap.size wx w' ∧ qR (.bool true) v w') (by rintro e w' ⟨q1, rfl⟩; exact ⟨_, q1, Below.refl _ _, rfl⟩)
  refine wp_region_mono 45 [17, 18, 19, 20, 21, 22, 23, 24, 25, 26, 27, 28, 29, 30, 31, 32, 33, 34, 35, 36, 37, 38, 39, 40, 41, 42, 43, 44, 45, 46, 47, 48, 49, 50, 51, 52, 53, 54, 55, 56, 57, 58, 59, 60, 61] [qR (.bool true),
      qR (.bool true),
      qR (.pointer (some ⟨N, 0, none⟩)),
      qR (.bool true),
      qR (.bool true),
      qR (.bool true),
      qR (.pointer (some ⟨N, 0, none⟩)),
      qR (.pointer (some ⟨N, 0, none⟩)),
      qR (.pointer (some ⟨N, 0, none⟩)),
      qR (.int .i64 (r.1 : Nat)),
      qR (.pointer (some ⟨z, 0, none⟩)),
      qR (.int .i64 (r.1 : Nat)),
      qR (.bool true),
      qR (.bool true),
      qR (.bool true),
      qR (.pointer (some ⟨N, 0, none⟩)),
      qR (.pointer (some ⟨N, 0, none⟩)),
      qR (.pointer (some ⟨N, 1, none⟩)),
      qR (.int .i64 (r.2 : Nat)),
      qR (.pointer (some ⟨z, 1, none⟩)),
      qR (.int .i64 (r.2 : Nat)),
      qR (.bool true),
      qR (.bool true),
      qR (.bool true),
      qR (.pointer (some ⟨N, 0, none⟩)),
      (fun u _ => ∃ s : ByteArray, u = .string s ∧ s.size ≠ 0),
      qR (.bool true),
      qR (.bool true),
      qR (.bool true),
      qR (.pointer (some ⟨N, 0, none⟩)),
      qR (.iface 34 (.int .i64 (r.2 : Nat))),
      qR (.pointer (some ⟨N, 0, none⟩)),
      qR (.pointer (some ⟨N, 0, none⟩)),
      qR (.pointer (some ⟨N, 1, none⟩)),
      qR (.int .i64 (r.2 : Nat)),
      qR (.iface 34 (.int .i64 (r.2 : Nat))),
      qR (.bool true),
      qR (.bool true),
      qR (.bool true),
      qR (.iface 55 (.pointer (some ⟨N, 0, none⟩))),
      qR (.pointer (some ⟨z, 1, none⟩)),
      qR (.int .i64 (r.2 : Nat)),
      qR (.iface 34 (.int .i64 (r.2 : Nat))),
      qR (.bool true),
      qR (.bool true)] (by kernel_rfl) (by kernel_rfl) rfl (by kernel_rfl) ?stab ?steps ?fin
  case stab =>
    intro φ hφ
    simp only [List.mem_cons, List.not_mem_nil, or_false] at hφ
    rcases hφ with rfl | rfl | rfl | rfl | rfl | rfl | rfl | rfl | rfl | rfl | rfl | rfl | rfl | rfl | rfl | rfl | rfl | rfl | rfl | rfl | rfl | rfl | rfl | rfl | rfl | rfl | rfl | rfl | rfl | rfl | rfl | rfl | rfl | rfl | rfl | rfl | rfl | rfl | rfl | rfl | rfl | rfl | rfl | rfl | rfl
    · exact fun _ _ _ _ h => h
    · exact fun _ _ _ _ h => h
    · exact fun _ _ _ _ h => h
    · exact fun _ _ _ _ h => h
    · exact fun _ _ _ _ h => h
    · exact fun _ _ _ _ h => h
    · exact fun _ _ _ _ h => h
    · exact fun _ _ _ _ h => h
    · exact fun _ _ _ _ h => h
    · exact fun _ _ _ _ h => h
    · exact fun _ _ _ _ h => h
    · exact fun _ _ _ _ h => h
    · exact fun _ _ _ _ h => h
    · exact fun _ _ _ _ h => h
    · exact fun _ _ _ _ h => h
    · exact fun _ _ _ _ h => h
    · exact fun _ _ _ _ h => h
    · exact fun _ _ _ _ h => h
    · exact fun _ _ _ _ h => h
    · exact fun _ _ _ _ h => h
    · exact fun _ _ _ _ h => h
    · exact fun _ _ _ _ h => h
    · exact fun _ _ _ _ h => h
    · exact fun _ _ _ _ h => h
    · exact fun _ _ _ _ h => h
    · exact fun _ _ _ _ h => h
    · exact fun _ _ _ _ h => h
    · exact fun _ _ _ _ h => h
    · exact fun _ _ _ _ h => h
    · exact fun _ _ _ _ h => h
    · exact fun _ _ _ _ h => h
    · exact fun _ _ _ _ h => h
    · exact fun _ _ _ _ h => h
    · exact fun _ _ _ _ h => h
    · exact fun _ _ _ _ h => h
    · exact fun _ _ _ _ h => h
    · exact fun _ _ _ _ h => h
    · exact fun _ _ _ _ h => h
    · exact fun _ _ _ _ h => h
    · exact fun _ _ _ _ h => h
    · exact fun _ _ _ _ h => h
    · exact fun _ _ _ _ h => h
    · exact fun _ _ _ _ h => h
    · exact fun _ _ _ _ h => h
    · exact fun _ _ _ _ h => h
  case steps =>
    have hBx : ∀ wx, Below U.drew.heap.size U.drew wx → Below U.heap.size U wx := fun wx hb => ⟨hb.os, hb.tape, hb.output, hb.size, hb.block⟩
    refine ⟨?_, ?_, ?_, ?_, ?_, ?_, ?_, ?_, ?_, ?_, ?_, ?_, ?_, ?_, ?_, ?_, ?_, ?_, ?_, ?_, ?_, ?_, ?_, ?_, ?_, ?_, ?_, ?_, ?_, ?_, ?_, ?_, ?_, ?_, ?_, ?_, ?_, ?_, ?_, ?_, ?_, ?_, ?_, ?_, ?_, trivial⟩
    · intro a' he wx hb hd
      have e0 : a'.eval (.tmp 6) = .bool true := he.get rfl
      exact mStep_read rfl (by simp [execOp, e0]) rfl
    · intro a' he wx hb hd
      have e0 : a'.eval (.tmp 17) = .bool true := hd 0 rfl _ _ rfl rfl
      exact mStep_read rfl (by simp [execOp, e0]) rfl
    · intro a' he wx hb hd
      have e0 : a'.eval (.tmp 5) = .pointer (some ⟨N, 0, none⟩) := he.get rfl
      exact mStep_read_on rfl rfl rfl (hd 1 rfl _ _ rfl rfl) (by simp [execOp, e0]) rfl
    · intro a' he wx hb hd
      have e0 : a'.eval (.tmp 19) = .pointer (some ⟨N, 0, none⟩) := hd 2 rfl _ _ rfl rfl
      refine mStep_read_on rfl rfl rfl (hd 1 rfl _ _ rfl rfl) ?_ rfl
      first | (simp [execOp, e0]; done) | (simp [execOp, e0]; go_simp; done) | (simp [execOp, e0, resolve]; go_simp; done) | (simp only [execOp, e0]; go_simp)
    · intro a' he wx hb hd
      have e0 : a'.eval (.tmp 18) = .bool true := hd 1 rfl _ _ rfl rfl
      have e1 : a'.eval (.tmp 20) = .bool true := hd 3 rfl _ _ rfl rfl
      refine mStep_read rfl ?_ rfl
      simp only [execOp, e0, e1]
      go_simp
    · intro a' he wx hb hd
      have e0 : a'.eval (.tmp 21) = .bool true := hd 4 rfl _ _ rfl rfl
      exact mStep_read rfl (by simp [execOp, e0]) rfl
    · intro a' he wx hb hd
      have e0 : a'.eval (.tmp 5) = .pointer (some ⟨N, 0, none⟩) := he.get rfl
      exact mStep_read_on rfl rfl rfl (hd 5 rfl _ _ rfl rfl) (by simp [execOp, e0]) rfl
    · intro a' he wx hb hd
      have e0 : a'.eval (.tmp 23) = .pointer (some ⟨N, 0, none⟩) := hd 6 rfl _ _ rfl rfl
      refine mStep_read_on rfl rfl rfl (hd 5 rfl _ _ rfl rfl) ?_ rfl
      simp only [execOp, e0]
      go_simp
    · intro a' he wx hb hd
      have e0 : a'.eval (.tmp 24) = .pointer (some ⟨N, 0, none⟩) := hd 7 rfl _ _ rfl rfl
      refine mStep_read_on rfl rfl rfl (hd 5 rfl _ _ rfl rfl) ?_ rfl
      simp only [execOp, e0]
      go_simp
    · intro a' he wx hb hd
      have e0 : a'.eval (.tmp 25) = .pointer (some ⟨N, 0, none⟩) := hd 8 rfl _ _ rfl rfl
      have c := (hR.below (hBx wx hb) hR.lt).c0
      refine mStep_read_on rfl rfl rfl (hd 5 rfl _ _ rfl rfl) ?_ rfl
      simp only [execOp, e0]
      go_simp
    · intro a' he wx hb hd
      have e0 : a'.eval (.tmp 3) = .pointer (some ⟨z, 0, none⟩) := he.get rfl
      refine mStep_read_on rfl rfl rfl (hd 5 rfl _ _ rfl rfl) ?_ rfl
      simp only [execOp, e0]
      go_simp
    · intro a' he wx hb hd
      have e0 : a'.eval (.tmp 27) = .pointer (some ⟨z, 0, none⟩) := hd 10 rfl _ _ rfl rfl
      have c := (hZ.up (hBx wx hb)).cell 0
      refine mStep_read_on rfl rfl rfl (hd 5 rfl _ _ rfl rfl) ?_ rfl
      simp only [execOp, e0]
      go_simp
    · intro a' he wx hb hd
      have e0 : a'.eval (.tmp 26) = .int .i64 (r.1 : Nat) := hd 9 rfl _ _ rfl rfl
      have e1 : a'.eval (.tmp 28) = .int .i64 (r.1 : Nat) := hd 11 rfl _ _ rfl rfl
      refine mStep_read_on rfl rfl rfl (hd 5 rfl _ _ rfl rfl) ?_ rfl
      first | (simp [execOp, e0, e1]; done) | (simp [execOp, e0, e1]; go_simp; done) | (simp [execOp, e0, e1, resolve]; go_simp; done) | (simp only [execOp, e0, e1]; go_simp)
    · intro a' he wx hb hd
      have e0 : a'.eval (.tmp 22) = .bool true := hd 5 rfl _ _ rfl rfl
      have e1 : a'.eval (.tmp 29) = .bool true := hd 12 rfl _ _ rfl rfl
      refine mStep_read rfl ?_ rfl
      simp only [execOp, e0, e1]
      go_simp
    · intro a' he wx hb hd
      have e0 : a'.eval (.tmp 30) = .bool true := hd 13 rfl _ _ rfl rfl
      exact mStep_read rfl (by simp [execOp, e0]) rfl
    · intro a' he wx hb hd
      have e0 : a'.eval (.tmp 5) = .pointer (some ⟨N, 0, none⟩) := he.get rfl
      exact mStep_read_on rfl rfl rfl (hd 14 rfl _ _ rfl rfl) (by simp [execOp, e0]) rfl
    · intro a' he wx hb hd
      have e0 : a'.eval (.tmp 32) = .pointer (some ⟨N, 0, none⟩) := hd 15 rfl _ _ rfl rfl
      refine mStep_read_on rfl rfl rfl (hd 14 rfl _ _ rfl rfl) ?_ rfl
      simp only [execOp, e0]
      go_simp
    · intro a' he wx hb hd
      have e0 : a'.eval (.tmp 33) = .pointer (some ⟨N, 0, none⟩) := hd 16 rfl _ _ rfl rfl
      refine mStep_read_on rfl rfl rfl (hd 14 rfl _ _ rfl rfl) ?_ rfl
      simp only [execOp, e0]
      go_simp
    · intro a' he wx hb hd
      have e0 : a'.eval (.tmp 34) = .pointer (some ⟨N, 1, none⟩) := hd 17 rfl _ _ rfl rfl
      have c := (hR.below (hBx wx hb) hR.lt).c1
      refine mStep_read_on rfl rfl rfl (hd 14 rfl _ _ rfl rfl) ?_ rfl
      simp only [execOp, e0]
      go_simp
    · intro a' he wx hb hd
      have e0 : a'.eval (.tmp 3) = .pointer (some ⟨z, 0, none⟩) := he.get rfl
      refine mStep_read_on rfl rfl rfl (hd 14 rfl _ _ rfl rfl) ?_ rfl
      simp only [execOp, e0]
      go_simp
    · intro a' he wx hb hd
      have e0 : a'.eval (.tmp 36) = .pointer (some ⟨z, 1, none⟩) := hd 19 rfl _ _ rfl rfl
      have c := (hZ.up (hBx wx hb)).cell 1
      refine mStep_read_on rfl rfl rfl (hd 14 rfl _ _ rfl rfl) ?_ rfl
      simp only [execOp, e0]
      go_simp
    · intro a' he wx hb hd
      have e0 : a'.eval (.tmp 35) = .int .i64 (r.2 : Nat) := hd 18 rfl _ _ rfl rfl
      have e1 : a'.eval (.tmp 37) = .int .i64 (r.2 : Nat) := hd 20 rfl _ _ rfl rfl
      refine mStep_read_on rfl rfl rfl (hd 14 rfl _ _ rfl rfl) ?_ rfl
      first | (simp [execOp, e0, e1]; done) | (simp [execOp, e0, e1]; go_simp; done) | (simp [execOp, e0, e1, resolve]; go_simp; done) | (simp only [execOp, e0, e1]; go_simp)
    · intro a' he wx hb hd
      have e0 : a'.eval (.tmp 31) = .bool true := hd 14 rfl _ _ rfl rfl
      have e1 : a'.eval (.tmp 38) = .bool true := hd 21 rfl _ _ rfl rfl
      refine mStep_read rfl ?_ rfl
      simp only [execOp, e0, e1]
      go_simp
    · intro a' he wx hb hd
      have e0 : a'.eval (.tmp 39) = .bool true := hd 22 rfl _ _ rfl rfl
      exact mStep_read rfl (by simp [execOp, e0]) rfl
    · intro a' he wx hb hd
      have e0 : a'.eval (.tmp 5) = .pointer (some ⟨N, 0, none⟩) := he.get rfl
      exact mStep_read_on rfl rfl rfl (hd 23 rfl _ _ rfl rfl) (by simp [execOp, e0]) rfl
    · intro a' he wx hb hd
      have e0 : a'.eval (.tmp 41) = .pointer (some ⟨N, 0, none⟩) := hd 24 rfl _ _ rfl rfl
      exact mStep_call_on rfl rfl rfl (hd 23 rfl _ _ rfl rfl) (by simp [execOp, e0, resolve]; rfl) (HE wx (hBx wx hb))
    · intro a' he wx hb hd
      have e0 := hd 25 rfl _ _ rfl rfl
      obtain ⟨s, e0, hs⟩ := e0
      refine mStep_read_on rfl rfl rfl (hd 23 rfl _ _ rfl rfl) ?_ rfl
      simp only [execOp, e0]
      go_simp
      rw [ByteArray.toList_eq]
      intro h
      apply hs
      show s.data.size = 0
      rw [← Array.length_toList, h]
      rfl
    · intro a' he wx hb hd
      have e0 : a'.eval (.tmp 40) = .bool true := hd 23 rfl _ _ rfl rfl
      have e1 : a'.eval (.tmp 43) = .bool true := hd 26 rfl _ _ rfl rfl
      refine mStep_read rfl ?_ rfl
      simp only [execOp, e0, e1]
      go_simp
    · intro a' he wx hb hd
      have e0 : a'.eval (.tmp 44) = .bool true := hd 27 rfl _ _ rfl rfl
      exact mStep_read rfl (by simp [execOp, e0]) rfl
    · intro a' he wx hb hd
      have e0 : a'.eval (.tmp 5) = .pointer (some ⟨N, 0, none⟩) := he.get rfl
      exact mStep_read_on rfl rfl rfl (hd 28 rfl _ _ rfl rfl) (by simp [execOp, e0]) rfl
    · intro a' he wx hb hd
      have e0 : a'.eval (.tmp 46) = .pointer (some ⟨N, 0, none⟩) := hd 29 rfl _ _ rfl rfl
      exact mStep_call_on rfl rfl rfl (hd 28 rfl _ _ rfl rfl) (by simp [execOp, e0, resolve]; rfl) (HU wx (hBx wx hb))
    · intro a' he wx hb hd
      have e0 : a'.eval (.tmp 5) = .pointer (some ⟨N, 0, none⟩) := he.get rfl
      exact mStep_read_on rfl rfl rfl (hd 28 rfl _ _ rfl rfl) (by simp [execOp, e0]) rfl
    · intro a' he wx hb hd
      have e0 : a'.eval (.tmp 48) = .pointer (some ⟨N, 0, none⟩) := hd 31 rfl _ _ rfl rfl
      refine mStep_read_on rfl rfl rfl (hd 28 rfl _ _ rfl rfl) ?_ rfl
      simp only [execOp, e0]
      go_simp
    · intro a' he wx hb hd
      have e0 : a'.eval (.tmp 49) = .pointer (some ⟨N, 0, none⟩) := hd 32 rfl _ _ rfl rfl
      refine mStep_read_on rfl rfl rfl (hd 28 rfl _ _ rfl rfl) ?_ rfl
      simp only [execOp, e0]
      go_simp
    · intro a' he wx hb hd
      have e0 : a'.eval (.tmp 50) = .pointer (some ⟨N, 1, none⟩) := hd 33 rfl _ _ rfl rfl
      have c := (hR.below (hBx wx hb) hR.lt).c1
      refine mStep_read_on rfl rfl rfl (hd 28 rfl _ _ rfl rfl) ?_ rfl
      simp only [execOp, e0]
      go_simp
    · intro a' he wx hb hd
      have e0 : a'.eval (.tmp 51) = .int .i64 (r.2 : Nat) := hd 34 rfl _ _ rfl rfl
      refine mStep_read_on rfl rfl rfl (hd 28 rfl _ _ rfl rfl) ?_ rfl
      first | (simp [execOp, e0]; done) | (simp [execOp, e0]; go_simp; done) | (simp [execOp, e0, resolve]; go_simp; done) | (simp only [execOp, e0]; go_simp)
    · intro a' he wx hb hd
      have e0 : a'.eval (.tmp 47) = .iface 34 (.int .i64 (r.2 : Nat)) := hd 30 rfl _ _ rfl rfl
      have e1 : a'.eval (.tmp 52) = .iface 34 (.int .i64 (r.2 : Nat)) := hd 35 rfl _ _ rfl rfl
      exact mStep_call_on rfl rfl rfl (hd 28 rfl _ _ rfl rfl) (by simp [execOp, e0, e1, resolve]; rfl) (HS wx (hBx wx hb))
    · intro a' he wx hb hd
      have e0 : a'.eval (.tmp 45) = .bool true := hd 28 rfl _ _ rfl rfl
      have e1 : a'.eval (.tmp 53) = .bool true := hd 36 rfl _ _ rfl rfl
      refine mStep_read rfl ?_ rfl
      simp only [execOp, e0, e1]
      go_simp
    · intro a' he wx hb hd
      have e0 : a'.eval (.tmp 54) = .bool true := hd 37 rfl _ _ rfl rfl
      exact mStep_read rfl (by simp [execOp, e0]) rfl
    · intro a' he wx hb hd
      have e0 : a'.eval (.tmp 0) = .iface 55 (.pointer (some ⟨N, 0, none⟩)) := he.get rfl
      exact mStep_read_on rfl rfl rfl (hd 38 rfl _ _ rfl rfl) (by simp [execOp, e0]) rfl
    · intro a' he wx hb hd
      have e0 : a'.eval (.tmp 3) = .pointer (some ⟨z, 0, none⟩) := he.get rfl
      refine mStep_read_on rfl rfl rfl (hd 38 rfl _ _ rfl rfl) ?_ rfl
      simp only [execOp, e0]
      go_simp
    · intro a' he wx hb hd
      have e0 : a'.eval (.tmp 57) = .pointer (some ⟨z, 1, none⟩) := hd 40 rfl _ _ rfl rfl
      have c := (hZ.up (hBx wx hb)).cell 1
      refine mStep_read_on rfl rfl rfl (hd 38 rfl _ _ rfl rfl) ?_ rfl
      simp only [execOp, e0]
      go_simp
    · intro a' he wx hb hd
      have e0 : a'.eval (.tmp 58) = .int .i64 (r.2 : Nat) := hd 41 rfl _ _ rfl rfl
      refine mStep_read_on rfl rfl rfl (hd 38 rfl _ _ rfl rfl) ?_ rfl
      first | (simp [execOp, e0]; done) | (simp [execOp, e0]; go_simp; done) | (simp [execOp, e0, resolve]; go_simp; done) | (simp only [execOp, e0]; go_simp)
    · intro a' he wx hb hd
      have e0 : a'.eval (.tmp 56) = .iface 55 (.pointer (some ⟨N, 0, none⟩)) := hd 39 rfl _ _ rfl rfl
      have e1 : a'.eval (.tmp 59) = .iface 34 (.int .i64 (r.2 : Nat)) := hd 42 rfl _ _ rfl rfl
      exact mStep_call_on rfl rfl rfl (hd 38 rfl _ _ rfl rfl) (by simp [execOp, e0, e1, resolve]; rfl) (HX wx (hBx wx hb))
    · intro a' he wx hb hd
      have e0 : a'.eval (.tmp 55) = .bool true := hd 38 rfl _ _ rfl rfl
      have e1 : a'.eval (.tmp 60) = .bool true := hd 43 rfl _ _ rfl rfl
      refine mStep_read rfl ?_ rfl
      simp only [execOp, e0, e1]
      go_simp
  case fin =>
    rintro wx hb _ rfl _ rfl _ rfl _ rfl _ rfl _ rfl _ rfl _ rfl _ rfl _ rfl _ rfl _ rfl _ rfl _ rfl _ rfl _ rfl _ rfl _ rfl _ rfl _ rfl _ rfl _ rfl _ rfl _ rfl _ rfl u42 p42 _ rfl _ rfl _ rfl _ rfl _ rfl _ rfl _ rfl _ rfl _ rfl _ rfl _ rfl _ rfl _ rfl _ rfl _ rfl _ rfl _ rfl _ rfl _ rfl
    simp only [finV, Act.put, List.setIfInBounds_toArray, List.set_cons_succ, List.set_cons_zero, List.drop_succ_cons, List.drop_zero]
    have hbd : Below U.heap.size U wx := ⟨hb.os, hb.tape, hb.output, hb.size, hb.block⟩
    have hE := b1.trans (hbd.mono b1.size)
    clear HU HE HS HX p42
    go_wp2_with fail
    go_ret
    exact ⟨rfl, hE⟩
end Go.Proofs.YtplmmamebfpcjaaDoor
end
section
/- tesseralaw5.fault, model.Bare: their contracts; ModelNumbers: the walk. -/
namespace Go.Proofs.YtplmmamebfpcjaaDoor
open Go.RowKit Go.Sort Go.Joins
set_option linter.unusedVariables false
def spc : List Sp := [⟨32, 32⟩]
theorem made_u8 (n j : Nat) (h : j < n) : (madeCells (Value.int .u8 0).cells (n * 1))[j]? = some (.int .u8 0) := by simp [madeCells, h, Value.cells, Nat.mod_one]
theorem zero_get (n j : Nat) : (List.replicate n (0 : Int)).getD j 0 = 0 := by
  rw [List.getD_eq_getElem?_getD, List.getElem?_replicate]
  split <;> rfl
theorem mwf_mem {ms : List Mg} (h : ∀ x ∈ ms, W64 x.l ∧ W64 x.r ∧ W64 x.i) : MWf ms := fun _ _ hx => h _ (List.mem_of_getElem? hx)
theorem lstSpc {X : World} {g : Nat} (hs : X.heap.size = g) : Lst (X.alloc (.cells #[.int .i32 32, .int .i32 32] 40)) (some ⟨g, 0, none⟩) 1 spc := by
  refine ⟨Nat.le_refl _, by omega, ?_⟩
  subst hs
  exact SPS.new X spc _
theorem lstNil (w : World) : Lst w none 0 [] := ⟨Nat.le_refl _, by omega, .inl rfl⟩
set_option maxRecDepth 100000 in
set_option maxHeartbeats 4000000 in
theorem bare_any (a b c : Option Addr) (ca cb cc : Nat) (A B C : List Sp) (w : World) (hA : Lst w a ca A) (hB : Lst w b cb B) (hC : Lst w c cc C) (hG : GL w) (y li ro : Nat) (hy : checkD [] [] A B C = (y, li, ro)) :
    Calls Tryd.prog 9 #[.slice a A.length ca, .slice b B.length cb, .slice c C.length cc] w fun e w' => ∃ p, e = .returned (.tuple #[.pointer p, .agg #[.int .i64 (y : Nat), .int .i64 (li : Nat), .int .i64 (ro : Nat)]]) ∧ (y = 0 → ∃ g, p = some ⟨g, 0, none⟩ ∧ ModelAt w' w.heap.size g [] [] A B C) ∧ (y ≠ 0 → p = none) ∧ Below w.heap.size w w' := by
  have hR := Blk.new w (.cells #[.int .i64 0, .int .i64 0, .int .i64 0] 36)
  have b1 := box_below w (.cells #[.int .i64 0, .int .i64 0, .int .i64 0] 36)
  have hN := mnew_any none none a b c 0 0 ca cb cc [] [] A B C (w.alloc (.cells #[.int .i64 0, .int .i64 0, .int .i64 0] 36)) (fun i x h => by simp at h) (by simp) (.inl rfl) (.inl rfl) (hA.below b1) (hB.below b1) (hC.below b1) (hG.below b1)
  rw [hy] at hN
  unfold f3V at hN
  simp only [List.length_nil] at hN
  have hs : (w.alloc (.cells #[.int .i64 0, .int .i64 0, .int .i64 0] 36)).heap.size = w.heap.size + 1 := by simp
  clear hA hB hC hG hy
  go_enter Tryd.func9, Tryd.ntmps9
  go_wp2_with fail
  refine hN.mono ?_
  rintro e w1 ⟨p, rfl, hp1, hp2, hb1⟩
  rw [hs] at hp1
  have HP1 : Hid (y = 0 → ∃ g, p = some ⟨g, 0, none⟩ ∧ ModelAt w1 (w.heap.size + 1) g [] [] A B C) := hp1
  have HP2 : Hid (y ≠ 0 → p = none) := hp2
  have hR3 := hR.up hb1
  have B3 := b1.trans (hb1.mono b1.size)
  have z0 := hR3.cell 0
  have z1 := hR3.cell 1
  have z2 := hR3.cell 2
  have zf := fun j => hR3.free j
  clear hN hR b1 hb1 hs hp1 hp2
  go_wp2_with fail
  have hRR : w1.heap[w.heap.size]? = some (.cells #[.int .i64 0, .int .i64 0, .int .i64 0] 36 (0, 0)) := hR3
  have hfin := wr_set hRR (u0 := .int .i64 (y : Nat)) (u1 := .int .i64 (li : Nat)) (u2 := .int .i64 (ro : Nat))
  have hBf := wr_below B3 (g := w.heap.size) (u0 := .int .i64 (y : Nat)) (u1 := .int .i64 (li : Nat)) (u2 := .int .i64 (ro : Nat)) (Nat.le_refl _)
  have y0 := cell_of_block hfin (i := 0)
  have y1 := cell_of_block hfin (i := 1)
  have y2 := cell_of_block hfin (i := 2)
  exact bodyPost_ret (v := .tuple #[.pointer p, .agg #[.int .i64 (y : Nat), .int .i64 (li : Nat), .int .i64 (ro : Nat)]]) (by simp [results, Tryd.results9, go_sem, y0, y1, y2]) rfl ⟨p, rfl, fun h => by
    obtain ⟨g, h1, h2⟩ := HP1.out h
    exact ⟨g, h1, (((h2.away (b := w.heap.size) (o := 0) (by omega) (.int .i64 (y : Nat))).away (b := w.heap.size) (o := 1) (by omega) (.int .i64 (li : Nat))).away (b := w.heap.size) (o := 2) (by omega) (.int .i64 (ro : Nat))).low (by omega)⟩, HP2.out, hBf⟩
def longW : ByteArray := strOfNums (List.replicate 257 0)
theorem longW_size : longW.size = 257 := by decide +kernel
theorem chk0 : checkD [⟨#[97, 98]⟩, ⟨#[97, 98, 99]⟩] [⟨97, 98, 256⟩, ⟨256, 99, 257⟩] [] [] spc = (0, 0, 0) := by decide +kernel
theorem chk1 : checkD [⟨#[97, 98]⟩, ⟨#[97, 98, 99]⟩] [⟨256, 99, 257⟩, ⟨97, 98, 256⟩] [] [] spc = (23, 5, 0) := by decide +kernel
theorem chk2 : checkD [⟨#[97, 98]⟩] [⟨97, 99, 256⟩] [] [] spc = (25, 5, 0) := by decide +kernel
theorem chk3 : checkD [⟨#[97, 98]⟩] [⟨97, 98, 257⟩] [] [] spc = (24, 5, 0) := by decide +kernel
theorem chk4 : checkD [⟨#[97, 98]⟩] [⟨97, 98, 97⟩] [] [] spc = (24, 5, 0) := by decide +kernel
theorem chk5 : checkD [⟨#[97, 98]⟩, ⟨#[97, 98]⟩] [⟨97, 98, 256⟩, ⟨97, 98, 256⟩] [] [] spc = (22, 4, 1) := by decide +kernel
theorem chk6 : checkD [⟨#[97]⟩] [⟨97, 98, 256⟩] [] [] spc = (21, 4, 0) := by decide +kernel
theorem chk7 : checkD [longW] [⟨97, 98, 256⟩] [] [] spc = (21, 4, 0) := by
  have h : badW [longW] 0 = 21 := by unfold badW; simp only [List.getElem?_cons_zero]; rw [if_pos (by rw [longW_size]; omega)]
  have h2 : firstBad (badW [longW]) 1 = (21, 0) := by rw [← h]; exact firstBad_some (by omega) (fun j hj => absurd hj (Nat.not_lt_zero _)) (by rw [h]; decide)
  have h3 : (checkA [] [] spc).1 = 0 := by decide +kernel
  unfold checkD
  simp only [List.length_cons, List.length_nil]
  rw [if_neg (by omega), if_neg (by simp), if_neg (by simpa using h3), h2, if_pos (by decide)]
theorem chk8 : checkD [⟨#[97, 98]⟩] [] [] [] spc = (4, 4, 0) := by decide +kernel
theorem chk9 : checkD [] (List.replicate 4097 ⟨0, 0, 0⟩) [] [] spc = (4, 5, 4096) := by unfold checkD; rw [if_pos (by rw [List.length_replicate]; omega)]
theorem chkOk : checkD [] [] [] [] spc = (0, 0, 0) := by decide +kernel
theorem chkNo : checkD [] [] [] [] [] = (20, 3, 0) := by decide +kernel
theorem fq0_0_0 : ∀ W, (binOp BinOp.eql 36 (.agg #[.int .i64 0, .int .i64 0, .int .i64 0]) (.agg #[.int .i64 0, .int .i64 0, .int .i64 0])).run Tryd.prog W = .ok (.bool true) W := fun W => by kernel_rfl
theorem fq4_4_0 : ∀ W, (binOp BinOp.eql 36 (.agg #[.int .i64 4, .int .i64 4, .int .i64 0]) (.agg #[.int .i64 4, .int .i64 4, .int .i64 0])).run Tryd.prog W = .ok (.bool true) W := fun W => by kernel_rfl
theorem fq4_5_4096 : ∀ W, (binOp BinOp.eql 36 (.agg #[.int .i64 4, .int .i64 5, .int .i64 4096]) (.agg #[.int .i64 4, .int .i64 5, .int .i64 4096])).run Tryd.prog W = .ok (.bool true) W := fun W => by kernel_rfl
theorem fq20_3_0 : ∀ W, (binOp BinOp.eql 36 (.agg #[.int .i64 20, .int .i64 3, .int .i64 0]) (.agg #[.int .i64 20, .int .i64 3, .int .i64 0])).run Tryd.prog W = .ok (.bool true) W := fun W => by kernel_rfl
theorem fq21_4_0 : ∀ W, (binOp BinOp.eql 36 (.agg #[.int .i64 21, .int .i64 4, .int .i64 0]) (.agg #[.int .i64 21, .int .i64 4, .int .i64 0])).run Tryd.prog W = .ok (.bool true) W := fun W => by kernel_rfl
theorem fq22_4_1 : ∀ W, (binOp BinOp.eql 36 (.agg #[.int .i64 22, .int .i64 4, .int .i64 1]) (.agg #[.int .i64 22, .int .i64 4, .int .i64 1])).run Tryd.prog W = .ok (.bool true) W := fun W => by kernel_rfl
theorem fq23_5_0 : ∀ W, (binOp BinOp.eql 36 (.agg #[.int .i64 23, .int .i64 5, .int .i64 0]) (.agg #[.int .i64 23, .int .i64 5, .int .i64 0])).run Tryd.prog W = .ok (.bool true) W := fun W => by kernel_rfl
theorem fq24_5_0 : ∀ W, (binOp BinOp.eql 36 (.agg #[.int .i64 24, .int .i64 5, .int .i64 0]) (.agg #[.int .i64 24, .int .i64 5, .int .i64 0])).run Tryd.prog W = .ok (.bool true) W := fun W => by kernel_rfl
theorem fq25_5_0 : ∀ W, (binOp BinOp.eql 36 (.agg #[.int .i64 25, .int .i64 5, .int .i64 0]) (.agg #[.int .i64 25, .int .i64 5, .int .i64 0])).run Tryd.prog W = .ok (.bool true) W := fun W => by kernel_rfl
theorem fn20 : ∀ W, (binOp BinOp.neq 36 (.agg #[.int .i64 20, .int .i64 3, .int .i64 0]) (.agg #[.int .i64 20, .int .i64 3, .int .i64 0])).run Tryd.prog W = .ok (.bool false) W := fun W => by kernel_rfl
end Go.Proofs.YtplmmamebfpcjaaDoor
end
section
/- tesseralaw6.bare: its contract. -/
namespace Go.Proofs.YtplmmamebfpcjaaDoor
open Go.RowKit Go.Sort Go.Joins
set_option linter.unusedVariables false
set_option maxRecDepth 100000
/-- The file of the least model. -/
def bareF : List UInt8 := fileF [] [] [] [] spc
theorem bareF_len : bareF.length = 32 := by decide +kernel
set_option maxHeartbeats 4000000 in
theorem lawBare_any (w : World) (hG : GL w) : Calls Tryd.prog 4 #[] w (Oc.NewBytes w bareF) := by
  have hb := box_below w (.cells #[.int .i32 32, .int .i32 32] 40 (0, 0))
  have HB := bare_any none none (some ⟨w.heap.size, 0, none⟩) 0 0 1 [] [] spc (w.alloc (.cells #[.int .i32 32, .int .i32 32] 40)) (lstNil _) (lstNil _) (lstSpc rfl) (hG.below hb) 0 0 0 chkOk
  rw [show ([] : List Sp).length = 0 from rfl, show spc.length = 1 from rfl] at HB
  have hok : MOk [] [] [] [] spc := checkD_ok (by rw [chkOk])
  have HS := fun (g lo : Nat) (wx : World) h => save_any g lo [] [] [] [] spc wx hok h
  obtain ⟨U, hU⟩ : ∃ U, U = w.alloc (.cells #[.int .i32 32, .int .i32 32] 40 (0, 0)) := ⟨_, rfl⟩
  go_enter Tryd.func4, Tryd.ntmps4
  go_wp2_with fail
  rw [← hU] at hb HB ⊢
  refine HB.mono ?_
  rintro e w1 ⟨p, rfl, h1, h2, hb1⟩
  obtain ⟨g, rfl, hm⟩ := h1 trivial
  clear h2 HB h1 hU
  have hb2 := hb.trans (hb1.mono hb.size)
  have hb3 := box_below w1 (.cells #[.int .i64 0, .int .i64 0, .int .i64 0] 36 (0, 0))
  have hm2 := hm.below hb3
  have hb4 := hb2.trans (hb3.mono hb2.size)
  clear hm hb1 hb2 hb3
  go_wp2_with fail
  obtain ⟨V, hV⟩ : ∃ V, V = w1.alloc (.cells #[.int .i64 0, .int .i64 0, .int .i64 0] 36 (0, 0)) := ⟨_, rfl⟩
  rw [← hV] at hm2 hb4 ⊢
  refine (HS g _ V hm2).mono ?_
  rintro e w2 ⟨v, rfl, ho, hb5⟩
  clear HS hV
  go_wp2_with fail
  go_ret
  exact ⟨_, rfl, OwnB.low ho hb4.size, hb4.trans (hb5.mono hb4.size)⟩
end Go.Proofs.YtplmmamebfpcjaaDoor
end
section
/- tesseralaw6.known: its contract. -/
namespace Go.Proofs.YtplmmamebfpcjaaDoor
open Go.RowKit Go.Sort Go.Joins
set_option linter.unusedVariables false
set_option maxRecDepth 100000
theorem loadX : loadR [66, 80, 88, 49] = .error (2, 11) := by kernel_rfl
theorem loadB : (loadR bareF).toOption.map (fun r => (r.W, r.M, r.X, r.Y, r.Z)) = some ([], [], [], [], spc) := by kernel_rfl
/-- What Load leaves of the least model's file. -/
theorem loadQ_bare {w w' : World} {e : Ending} (h : LoadQ w w' bareF e) : ∃ g, e = .returned (.tuple #[.pointer (some ⟨g, 0, none⟩), .nilIface]) ∧ ModelAt w' w.heap.size g [] [] [] [] spc := by
  have hB := loadB
  unfold LoadQ at h
  cases hr : loadR bareF with
  | error r => rw [hr] at hB; cases hB
  | ok r =>
    rw [hr] at h hB
    simp only [Except.toOption, Option.map_some, Option.some.injEq, Prod.mk.injEq] at hB
    obtain ⟨e1, e2, e3, e4, e5⟩ := hB
    simp only [e1, e2, e3, e4, e5] at h
    exact h
theorem loadQ_err {w w' : World} {e : Ending} {l : List UInt8} {r : Er} (hl : loadR l = .error r) (h : LoadQ w w' l e) : ∃ N, e = .returned (.tuple #[.pointer none, .iface 55 (.pointer (some ⟨N, 0, none⟩))]) ∧ w.heap.size ≤ N ∧ Rf w' N r := by
  unfold LoadQ at h
  rw [hl] at h
  exact h
set_option maxHeartbeats 4000000 in
theorem lawKnown_any (w : World) (hG : GL w) (hP : PT w) : Calls Tryd.prog 8 #[] w fun e w' => e = .returned (.bool true) ∧ Below w.heap.size w w' := by
  have H0 := lawBare_any w hG
  go_enter Tryd.func8, Tryd.ntmps8
  go_wp2_with fail
  refine H0.mono ?_
  rintro e w1 ⟨v, rfl, ho, hb1⟩
  obtain ⟨g1, c1, rfl, q1, q2, q3, q4, hbs1⟩ := ho.form (by rw [bareF_len]; decide)
  have H1 := load_any (some ⟨g1, 0, none⟩) c1 bareF w1 (by rw [bareF_len]; decide) q3 hbs1 (hG.below hb1)
  rw [bareF_len] at H1
  rw [bareF_len]
  clear H0 ho hbs1 q1 q2 q3
  go_wp2_with fail
  refine H1.mono ?_
  rintro e w2 ⟨hq, hb2⟩
  obtain ⟨g, rfl, hm⟩ := loadQ_bare hq
  have B2 := hb1.trans (hb2.mono hb1.size)
  clear H1 hq
  have hb3 := (Below.refl w2.heap.size w2).alloc (Nat.le_refl _) (.cells #[.int .u8 66, .int .u8 80, .int .u8 88, .int .u8 49] 5 (4, 5))
  have hbs3 : Oc.BS (w2.alloc (.cells #[.int .u8 66, .int .u8 80, .int .u8 88, .int .u8 49] 5 (4, 5))) (some ⟨w2.heap.size, 0, none⟩) [66, 80, 88, 49] := Oc.BS.marked w2 [66, 80, 88, 49] 5 (4, 5)
  have hcv := run_convert_bytes_const_at (P := Tryd.prog) w2 22 5 #[.int .u8 66, .int .u8 80, .int .u8 88, .int .u8 49] 4 4 w2.heap.size rfl Tryd.underlying22 Tryd.underlying5
  go_wp2_with fail
  obtain ⟨V, hV⟩ : ∃ V, V = w2.alloc (.cells #[.int .u8 66, .int .u8 80, .int .u8 88, .int .u8 49] 5 (4, 5)) := ⟨_, rfl⟩
  rw [← hV] at hb3 hbs3 ⊢
  have B3 := B2.trans (hb3.mono B2.size)
  have hm3 := hm.below hb3
  have H2 := load_any (some ⟨w2.heap.size, 0, none⟩) 4 [66, 80, 88, 49] V (by decide) (by decide) hbs3 (hG.below B3)
  rw [show ([66, 80, 88, 49] : List UInt8).length = 4 from rfl] at H2
  clear hcv hbs3 hV hb3 hm
  refine H2.mono ?_
  rintro e w3 ⟨hq, hb4⟩
  obtain ⟨N, rfl, hN, hR⟩ := loadQ_err loadX hq
  have B4 := B3.trans (hb4.mono B3.size)
  have hm4 := hm3.below hb4
  have H3 := msize_any g _ [] [] [] [] spc w3 (by decide) hm4
  rw [show (256 + ((([] : List ByteArray).length : Nat) : Int)) = 256 from rfl] at H3
  have H4 := refused_true w3 N (2, 11) hR (by decide) (by decide) (by decide) (hP.stays B4)
  clear H2 hq hm3 hm4
  go_wp2_with fail
  refine H3.mono ?_
  rintro e w4 ⟨rfl, rfl⟩
  clear H3
  go_wp2_with fail
  refine H4.mono ?_
  rintro e w5 ⟨rfl, hb5⟩
  go_wp2_with fail
  go_ret
  exact ⟨rfl, B4.trans (hb5.mono B4.size)⟩
end Go.Proofs.YtplmmamebfpcjaaDoor
end
section
/- What FileNumbers asks of Load's plain text. -/
namespace Go.Proofs.YtplmmamebfpcjaaDoor
set_option maxRecDepth 100000
theorem ld0 : loadR [] = .error (0, 11) := by kernel_rfl
theorem ldBP : loadR [66, 80] = .error (2, 11) := by kernel_rfl
theorem ld31 : loadR (bareF.take 31) = .error (31, 10) := by kernel_rfl
theorem ldT : loadR (bareF ++ [0]) = .error (32, 13) := by kernel_rfl
/-- The least model's file with its last bit turned. -/
def bareX : List UInt8 := bareF.set 31 (bareF.getD 31 0 ^^^ 1)
theorem bareX_len : bareX.length = 32 := by kernel_rfl
theorem ldX : loadR bareX = .error (28, 12) := by kernel_rfl
end Go.Proofs.YtplmmamebfpcjaaDoor
end
section
/- Aids for FileNumbers' walk. -/
namespace Go.Proofs.YtplmmamebfpcjaaDoor
open Go.RowKit Go.Sort Go.Joins
set_option linter.unusedVariables false
set_option maxRecDepth 100000
theorem own_none (W : World) : Oc.OwnS (W.alloc (.cells #[] 5 (0, 0))) W.heap.size (.slice (some ⟨W.heap.size, 0, none⟩) 0 0) [] :=
  ⟨rfl, .inr ⟨W.heap.size, 0, #[], rfl, Nat.le_refl _, (by show (W.heap.push _)[W.heap.size]? = some _; simp), Nat.le_refl _, by decide, rfl, rfl⟩⟩
/-- make([]byte, 1<<22 + 1). -/
theorem make_long : ∃ Z : Array Value, (∀ u : World, (Instr.makeSlice 22 (.int .i64 4194305) (.int .i64 4194305)).run Tryd.prog u = .ok (.slice (some ⟨u.heap.size, 0, none⟩) 4194305 4194305) (u.alloc (.cells Z 5))) ∧ ∀ u : World, Oc.BS (u.alloc (.cells Z 5)) (some ⟨u.heap.size, 0, none⟩) (List.replicate 4194305 0) := by
  obtain ⟨n, hn⟩ : ∃ n : Nat, n = 4194305 := ⟨_, rfl⟩
  have hZ : madeCells (Value.int .u8 0).cells (n * 1) = (Oc.cellsOf (List.replicate n 0)).toArray := by
    rw [Nat.mul_one]
    have h1 : (madeCells #[Value.int .u8 0] n).toList = (Oc.cellsOf (List.replicate n 0)) := by
      rw [toList_madeCells_one]
      simp [Oc.cellsOf]
    rw [← h1]
    rfl
  have hr : List.replicate 4194305 (0 : UInt8) = List.replicate n 0 := by rw [hn]
  have hI : (4194305 : Int) = (n : Int) := by omega
  rw [hr, hI]
  refine ⟨(Oc.cellsOf (List.replicate n 0)).toArray, fun u => ?_, fun u => Oc.BS.new u _ _⟩
  obtain ⟨i0, hi, hz0, hz1, hz2⟩ := info_parts Oc.info5
  have h := run_make (P := Tryd.prog) u 22 5 i0 _ Tryd.underlying22 hi hz0 .i64 .i64 n n (by omega) (Int.le_refl _) (by rw [hz2]; omega) (by omega)
  rw [hz1] at h
  rw [← hZ, ← hn]
  exact h
set_option maxHeartbeats 1000000 in
theorem load_long : loadR (List.replicate 4194305 0) = .error (0, 3) := loadR_long (by rw [List.length_replicate]; decide)
end Go.Proofs.YtplmmamebfpcjaaDoor
end
