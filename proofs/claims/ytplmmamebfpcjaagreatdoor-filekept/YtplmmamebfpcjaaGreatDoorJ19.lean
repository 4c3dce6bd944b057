import Derived.Test.YtplmmamebfpcjaaGreatDoorJ18
import Derived.Lib.Strings
import Derived.Test.YtplmmamebfpcjaaGreatDoorJ10
import Derived.Test.YtplmmamebfpcjaaGreatDoorJ11
import Derived.Test.YtplmmamebfpcjaaGreatDoorJ16
import Derived.Test.YtplmmamebfpcjaaGreatDoorRows
import Derived.Test.YtplmmamebfpcjaaGreatDoorJ0
import Derived.WalkSpells
import Derived.WalkLawsBesides
import Derived.Deep.QuietTactic
import Derived.BigQuiet
import Derived.Test.YtplmmamebfpcjaaGreatDoorJ17
import Derived.Test.YtplmmamebfpcjaaGreatDoorJ8
section
/- tesseralaw6.refused, sameErr: their contracts. -/
namespace Go.Proofs.YtplmmamebfpcjaaGreatDoor
open Go.RowKit Go.Sort Go.Joins Go.Extern.Stop Go.Stop Go.Extern
set_option linter.unusedVariables false
set_option maxRecDepth 100000
theorem assertRef (v : Value) (w : World) : (Instr.typeAssert (.iface 83 v) 38 83 true).run Tryz.prog w = .ok (.tuple #[v, .bool true]) w := by
  simp [Instr.typeAssert, run_underlying Tryz.underlying83, typeInfo]
theorem sameErr_eq (w : World) (k : Int) : Calls Tryz.prog 23 #[.iface 63 (.int .i64 k), .iface 63 (.int .i64 k)] w fun e w' => e = .returned (.bool true) ∧ w' = w := by
  have heq := errEq k k
  go_enter Tryz.func23, Tryz.ntmps23
  go_wp2
  go_ret
  exact ⟨by simp, rfl⟩
theorem refused_nil (w : World) (a : Int) : Calls Tryz.prog 17 #[.nilIface, .agg #[.int .i64 a, .int .i64 0]] w fun e w' => e = .returned (.bool true) ∧ Below w.heap.size w w' := by
  have hb := box_below w (.cells #[.int .i64 a, .int .i64 0] 42 (0, 0))
  go_enter Tryz.func17, Tryz.ntmps17
  go_wp2
  go_ret
  exact ⟨rfl, hb⟩
set_option maxHeartbeats 4000000 in
theorem refused_true (w : World) (N : Nat) (r : Er) (hR : Rf w N r) (h0 : r.2 ≠ 0) (h1 : r.1 ≤ 9223372036854775807) (h2 : r.2 ≤ 9223372036854775807) (hP : PT w) :
    Calls Tryz.prog 17 #[.iface 83 (.pointer (some ⟨N, 0, none⟩)), .agg #[.int .i64 (r.1 : Nat), .int .i64 (r.2 : Nat)]] w fun e w' => e = .returned (.bool true) ∧ Below w.heap.size w w' := by
  have b1 := box_below w (.cells #[.int .i64 (r.1 : Nat), .int .i64 (r.2 : Nat)] 42 (0, 0))
  have hZ := Blk.new w (.cells #[.int .i64 (r.1 : Nat), .int .i64 (r.2 : Nat)] 42 (0, 0))
  have x1 := hZ.cell 1
  have hta := assertRef (.pointer (some ⟨N, 0, none⟩))
  have h0' : ¬ ((r.2 : Int) = 0) := by omega
  go_enter Tryz.func17, Tryz.ntmps17
  go_wp2_with fail
  obtain ⟨U, hU⟩ : ∃ U, U = w.alloc (.cells #[.int .i64 (r.1 : Nat), .int .i64 (r.2 : Nat)] 42 (0, 0)) := ⟨_, rfl⟩
  rw [← hU] at b1 hZ ⊢
  clear hU x1
  obtain ⟨z, hz⟩ : ∃ z, z = w.heap.size := ⟨_, rfl⟩
  have HZ : Hid (z = w.heap.size) := hz
  rw [← hz] at hZ ⊢
  clear hz
  have hR := hR.below b1 hR.lt
  have hP := hP.stays b1
  have HU := fun wx (hb : Below U.heap.size U wx) => (unwrap_any wx N (r.2 : Nat) (hR.below hb hR.lt).c1).mono (R' := fun e w' => ∃ v, e = .returned v ∧ Below wx.heap.size wx w' ∧ qR (.iface 63 (.int .i64 (r.2 : Nat))) v w') (by rintro e w' ⟨q1, rfl⟩; exact ⟨_, q1, Below.refl _ _, rfl⟩)
  have HE := fun wx (hb : Below U.heap.size U wx) => error_any wx N r (hR.below hb hR.lt) h1 h2 (hP.stays hb)
  have HS := fun wx (hb : Below U.heap.size U wx) => (sameErr_eq wx (r.2 : Nat)).mono (R' := fun e w' => ∃ v, e = .returned v ∧ Below wx.heap.size wx w' ∧ qR (.bool true) v w') (by rintro e w' ⟨q1, rfl⟩; exact ⟨_, q1, Below.refl _ _, rfl⟩)
  have HX := fun wx (hb : Below U.heap.size U wx) => (is_ref wx N (r.2 : Nat) (hR.below hb hR.lt).c1).mono (R' := fun e w' => ∃ v, e = .returned v ∧ Below wx.heap.size wx w' ∧ qR (.bool true) v w') (by rintro e w' ⟨q1, rfl⟩; exact ⟨_, q1, Below.refl _ _, rfl⟩)
  refine wp_region_mono 45 [17, 18, 19, 20, 21, 22, 23, 24, 25, 26, 27, 28, 29, 30, 31, 32, 33, 34, 35, 36, 37, 38, 39, 40, 41, 42, 43, 44, 45, 46, 47, 48, 49, 50, 51, 52, 53, 54, 55, 56, 57, 58, 59, 60, 61] [qR (.bool true),
      qR (.bool true),
      qR (.pointer (some ⟨N, 0, none⟩)),
      qR (.bool true),
      qR (.bool true),
      qR (.bool true),
      qR (.pointer (some ⟨N, 0, none⟩)),
      qR (.pointer (some ⟨N, 0, none⟩)),
      qR (.pointer (some ⟨N, 0, none⟩)),
      qR (.int .i64 (r.1 : Nat)),
      qR (.pointer (some ⟨z, 0, none⟩)),
      qR (.int .i64 (r.1 : Nat)),
      qR (.bool true),
      qR (.bool true),
      qR (.bool true),
      qR (.pointer (some ⟨N, 0, none⟩)),
      qR (.pointer (some ⟨N, 0, none⟩)),
      qR (.pointer (some ⟨N, 1, none⟩)),
      qR (.int .i64 (r.2 : Nat)),
      qR (.pointer (some ⟨z, 1, none⟩)),
      qR (.int .i64 (r.2 : Nat)),
      qR (.bool true),
      qR (.bool true),
      qR (.bool true),
      qR (.pointer (some ⟨N, 0, none⟩)),
      (fun u _ => ∃ s : ByteArray, u = .string s ∧ s.size ≠ 0),
      qR (.bool true),
      qR (.bool true),
      qR (.bool true),
      qR (.pointer (some ⟨N, 0, none⟩)),
      qR (.iface 63 (.int .i64 (r.2 : Nat))),
      qR (.pointer (some ⟨N, 0, none⟩)),
      qR (.pointer (some ⟨N, 0, none⟩)),
      qR (.pointer (some ⟨N, 1, none⟩)),
      qR (.int .i64 (r.2 : Nat)),
      qR (.iface 63 (.int .i64 (r.2 : Nat))),
      qR (.bool true),
      qR (.bool true),
      qR (.bool true),
      qR (.iface 83 (.pointer (some ⟨N, 0, none⟩))),
      qR (.pointer (some ⟨z, 1, none⟩)),
      qR (.int .i64 (r.2 : Nat)),
      qR (.iface 63 (.int .i64 (r.2 : Nat))),
      qR (.bool true),
      qR (.bool true)] (by kernel_rfl) (by kernel_rfl) rfl (by kernel_rfl) ?stab ?steps ?fin
  case stab =>
    intro φ hφ
    simp only [List.mem_cons, List.not_mem_nil, or_false] at hφ
    rcases hφ with rfl | rfl | rfl | rfl | rfl | rfl | rfl | rfl | rfl | rfl | rfl | rfl | rfl | rfl | rfl | rfl | rfl | rfl | rfl | rfl | rfl | rfl | rfl | rfl | rfl | rfl | rfl | rfl | rfl | rfl | rfl | rfl | rfl | rfl | rfl | rfl | rfl | rfl | rfl | rfl | rfl | rfl | rfl | rfl | rfl
    · exact fun _ _ _ _ h => h
    · exact fun _ _ _ _ h => h
    · exact fun _ _ _ _ h => h
    · exact fun _ _ _ _ h => h
    · exact fun _ _ _ _ h => h
    · exact fun _ _ _ _ h => h
    · exact fun _ _ _ _ h => h
    · exact fun _ _ _ _ h => h
    · exact fun _ _ _ _ h => h
    · exact fun _ _ _ _ h => h
    · exact fun _ _ _ _ h => h
    · exact fun _ _ _ _ h => h
    · exact fun _ _ _ _ h => h
    · exact fun _ _ _ _ h => h
    · exact fun _ _ _ _ h => h
    · exact fun _ _ _ _ h => h
    · exact fun _ _ _ _ h => h
    · exact fun _ _ _ _ h => h
    · exact fun _ _ _ _ h => h
    · exact fun _ _ _ _ h => h
    · exact fun _ _ _ _ h => h
    · exact fun _ _ _ _ h => h
    · exact fun _ _ _ _ h => h
    · exact fun _ _ _ _ h => h
    · exact fun _ _ _ _ h => h
    · exact fun _ _ _ _ h => h
    · exact fun _ _ _ _ h => h
    · exact fun _ _ _ _ h => h
    · exact fun _ _ _ _ h => h
    · exact fun _ _ _ _ h => h
    · exact fun _ _ _ _ h => h
    · exact fun _ _ _ _ h => h
    · exact fun _ _ _ _ h => h
    · exact fun _ _ _ _ h => h
    · exact fun _ _ _ _ h => h
    · exact fun _ _ _ _ h => h
    · exact fun _ _ _ _ h => h
    · exact fun _ _ _ _ h => h
    · exact fun _ _ _ _ h => h
    · exact fun _ _ _ _ h => h
    · exact fun _ _ _ _ h => h
    · exact fun _ _ _ _ h => h
    · exact fun _ _ _ _ h => h
    · exact fun _ _ _ _ h => h
    · exact fun _ _ _ _ h => h
  case steps =>
    have hBx : ∀ wx, Below U.drew.heap.size U.drew wx → Below U.heap.size U wx := fun wx hb => ⟨hb.os, hb.tape, hb.output, hb.size, hb.block⟩
    refine ⟨?_, ?_, ?_, ?_, ?_, ?_, ?_, ?_, ?_, ?_, ?_, ?_, ?_, ?_, ?_, ?_, ?_, ?_, ?_, ?_, ?_, ?_, ?_, ?_, ?_, ?_, ?_, ?_, ?_, ?_, ?_, ?_, ?_, ?_, ?_, ?_, ?_, ?_, ?_, ?_, ?_, ?_, ?_, ?_, ?_, trivial⟩
    · intro a' he wx hb hd
      have e0 : a'.eval (.tmp 6) = .bool true := he.get rfl
      exact mStep_read rfl (by simp [execOp, e0]) rfl
    · intro a' he wx hb hd
      have e0 : a'.eval (.tmp 17) = .bool true := hd 0 rfl _ _ rfl rfl
      exact mStep_read rfl (by simp [execOp, e0]) rfl
    · intro a' he wx hb hd
      have e0 : a'.eval (.tmp 5) = .pointer (some ⟨N, 0, none⟩) := he.get rfl
      exact mStep_read_on rfl rfl rfl (hd 1 rfl _ _ rfl rfl) (by simp [execOp, e0]) rfl
    · intro a' he wx hb hd
      have e0 : a'.eval (.tmp 19) = .pointer (some ⟨N, 0, none⟩) := hd 2 rfl _ _ rfl rfl
      refine mStep_read_on rfl rfl rfl (hd 1 rfl _ _ rfl rfl) ?_ rfl
      first | (simp [execOp, e0]; done) | (simp [execOp, e0]; go_simp; done) | (simp [execOp, e0, resolve]; go_simp; done) | (simp only [execOp, e0]; go_simp)
    · intro a' he wx hb hd
      have e0 : a'.eval (.tmp 18) = .bool true := hd 1 rfl _ _ rfl rfl
      have e1 : a'.eval (.tmp 20) = .bool true := hd 3 rfl _ _ rfl rfl
      refine mStep_read rfl ?_ rfl
      simp only [execOp, e0, e1]
      go_simp
    · intro a' he wx hb hd
      have e0 : a'.eval (.tmp 21) = .bool true := hd 4 rfl _ _ rfl rfl
      exact mStep_read rfl (by simp [execOp, e0]) rfl
    · intro a' he wx hb hd
      have e0 : a'.eval (.tmp 5) = .pointer (some ⟨N, 0, none⟩) := he.get rfl
      exact mStep_read_on rfl rfl rfl (hd 5 rfl _ _ rfl rfl) (by simp [execOp, e0]) rfl
    · intro a' he wx hb hd
      have e0 : a'.eval (.tmp 23) = .pointer (some ⟨N, 0, none⟩) := hd 6 rfl _ _ rfl rfl
      refine mStep_read_on rfl rfl rfl (hd 5 rfl _ _ rfl rfl) ?_ rfl
      simp only [execOp, e0]
      go_simp
    · intro a' he wx hb hd
      have e0 : a'.eval (.tmp 24) = .pointer (some ⟨N, 0, none⟩) := hd 7 rfl _ _ rfl rfl
      refine mStep_read_on rfl rfl rfl (hd 5 rfl _ _ rfl rfl) ?_ rfl
      simp only [execOp, e0]
      go_simp
    · intro a' he wx hb hd
      have e0 : a'.eval (.tmp 25) = .pointer (some ⟨N, 0, none⟩) := hd 8 rfl _ _ rfl rfl
      have c := (hR.below (hBx wx hb) hR.lt).c0
      refine mStep_read_on rfl rfl rfl (hd 5 rfl _ _ rfl rfl) ?_ rfl
      simp only [execOp, e0]
      go_simp
    · intro a' he wx hb hd
      have e0 : a'.eval (.tmp 3) = .pointer (some ⟨z, 0, none⟩) := he.get rfl
      refine mStep_read_on rfl rfl rfl (hd 5 rfl _ _ rfl rfl) ?_ rfl
      simp only [execOp, e0]
      go_simp
    · intro a' he wx hb hd
      have e0 : a'.eval (.tmp 27) = .pointer (some ⟨z, 0, none⟩) := hd 10 rfl _ _ rfl rfl
      have c := (hZ.up (hBx wx hb)).cell 0
      refine mStep_read_on rfl rfl rfl (hd 5 rfl _ _ rfl rfl) ?_ rfl
      simp only [execOp, e0]
      go_simp
    · intro a' he wx hb hd
      have e0 : a'.eval (.tmp 26) = .int .i64 (r.1 : Nat) := hd 9 rfl _ _ rfl rfl
      have e1 : a'.eval (.tmp 28) = .int .i64 (r.1 : Nat) := hd 11 rfl _ _ rfl rfl
      refine mStep_read_on rfl rfl rfl (hd 5 rfl _ _ rfl rfl) ?_ rfl
      first | (simp [execOp, e0, e1]; done) | (simp [execOp, e0, e1]; go_simp; done) | (simp [execOp, e0, e1, resolve]; go_simp; done) | (simp only [execOp, e0, e1]; go_simp)
    · intro a' he wx hb hd
      have e0 : a'.eval (.tmp 22) = .bool true := hd 5 rfl _ _ rfl rfl
      have e1 : a'.eval (.tmp 29) = .bool true := hd 12 rfl _ _ rfl rfl
      refine mStep_read rfl ?_ rfl
      simp only [execOp, e0, e1]
      go_simp
    · intro a' he wx hb hd
      have e0 : a'.eval (.tmp 30) = .bool true := hd 13 rfl _ _ rfl rfl
      exact mStep_read rfl (by simp [execOp, e0]) rfl
    · intro a' he wx hb hd
      have e0 : a'.eval (.tmp 5) = .pointer (some ⟨N, 0, none⟩) := he.get rfl
      exact mStep_read_on rfl rfl rfl (hd 14 rfl _ _ rfl rfl) (by simp [execOp, e0]) rfl
    · intro a' he wx hb hd
      have e0 : a'.eval (.tmp 32) = .pointer (some ⟨N, 0, none⟩) := hd 15 rfl _ _ rfl rfl
      refine mStep_read_on rfl rfl rfl (hd 14 rfl _ _ rfl rfl) ?_ rfl
      simp only [execOp, e0]
      go_simp
    · intro a' he wx hb hd
      have e0 : a'.eval (.tmp 33) = .pointer (some ⟨N, 0, none⟩) := hd 16 rfl _ _ rfl rfl
      refine mStep_read_on rfl rfl rfl (hd 14 rfl _ _ rfl rfl) ?_ rfl
      simp only [execOp, e0]
      go_simp
    · intro a' he wx hb hd
      have e0 : a'.eval (.tmp 34) = .pointer (some ⟨N, 1, none⟩) := hd 17 rfl _ _ rfl rfl
      have c := (hR.below (hBx wx hb) hR.lt).c1
      refine mStep_read_on rfl rfl rfl (hd 14 rfl _ _ rfl rfl) ?_ rfl
      simp only [execOp, e0]
      go_simp
    · intro a' he wx hb hd
      have e0 : a'.eval (.tmp 3) = .pointer (some ⟨z, 0, none⟩) := he.get rfl
      refine mStep_read_on rfl rfl rfl (hd 14 rfl _ _ rfl rfl) ?_ rfl
      simp only [execOp, e0]
      go_simp
    · intro a' he wx hb hd
      have e0 : a'.eval (.tmp 36) = .pointer (some ⟨z, 1, none⟩) := hd 19 rfl _ _ rfl rfl
      have c := (hZ.up (hBx wx hb)).cell 1
      refine mStep_read_on rfl rfl rfl (hd 14 rfl _ _ rfl rfl) ?_ rfl
      simp only [execOp, e0]
      go_simp
    · intro a' he wx hb hd
      have e0 : a'.eval (.tmp 35) = .int .i64 (r.2 : Nat) := hd 18 rfl _ _ rfl rfl
      have e1 : a'.eval (.tmp 37) = .int .i64 (r.2 : Nat) := hd 20 rfl _ _ rfl rfl
      refine mStep_read_on rfl rfl rfl (hd 14 rfl _ _ rfl rfl) ?_ rfl
      first | (simp [execOp, e0, e1]; done) | (simp [execOp, e0, e1]; go_simp; done) | (simp [execOp, e0, e1, resolve]; go_simp; done) | (simp only [execOp, e0, e1]; go_simp)
    · intro a' he wx hb hd
      have e0 : a'.eval (.tmp 31) = .bool true := hd 14 rfl _ _ rfl rfl
      have e1 : a'.eval (.tmp 38) = .bool true := hd 21 rfl _ _ rfl rfl
      refine mStep_read rfl ?_ rfl
      simp only [execOp, e0, e1]
      go_simp
    · intro a' he wx hb hd
      have e0 : a'.eval (.tmp 39) = .bool true := hd 22 rfl _ _ rfl rfl
      exact mStep_read rfl (by simp [execOp, e0]) rfl
    · intro a' he wx hb hd
      have e0 : a'.eval (.tmp 5) = .pointer (some ⟨N, 0, none⟩) := he.get rfl
      exact mStep_read_on rfl rfl rfl (hd 23 rfl _ _ rfl rfl) (by simp [execOp, e0]) rfl
    · intro a' he wx hb hd
      have e0 : a'.eval (.tmp 41) = .pointer (some ⟨N, 0, none⟩) := hd 24 rfl _ _ rfl rfl
      exact mStep_call_on rfl rfl rfl (hd 23 rfl _ _ rfl rfl) (by simp [execOp, e0, resolve]; rfl) (HE wx (hBx wx hb))
    · intro a' he wx hb hd
      have e0 := hd 25 rfl _ _ rfl rfl
      obtain ⟨s, e0, hs⟩ := e0
      refine mStep_read_on rfl rfl rfl (hd 23 rfl _ _ rfl rfl) ?_ rfl
      simp only [execOp, e0]
      go_simp
      rw [ByteArray.toList_eq]
      intro h
      apply hs
      show s.data.size = 0
      rw [← Array.length_toList, h]
      rfl
    · intro a' he wx hb hd
      have e0 : a'.eval (.tmp 40) = .bool true := hd 23 rfl _ _ rfl rfl
      have e1 : a'.eval (.tmp 43) = .bool true := hd 26 rfl _ _ rfl rfl
      refine mStep_read rfl ?_ rfl
      simp only [execOp, e0, e1]
      go_simp
    · intro a' he wx hb hd
      have e0 : a'.eval (.tmp 44) = .bool true := hd 27 rfl _ _ rfl rfl
      exact mStep_read rfl (by simp [execOp, e0]) rfl
    · intro a' he wx hb hd
      have e0 : a'.eval (.tmp 5) = .pointer (some ⟨N, 0, none⟩) := he.get rfl
      exact mStep_read_on rfl rfl rfl (hd 28 rfl _ _ rfl rfl) (by simp [execOp, e0]) rfl
    · intro a' he wx hb hd
      have e0 : a'.eval (.tmp 46) = .pointer (some ⟨N, 0, none⟩) := hd 29 rfl _ _ rfl rfl
      exact mStep_call_on rfl rfl rfl (hd 28 rfl _ _ rfl rfl) (by simp [execOp, e0, resolve]; rfl) (HU wx (hBx wx hb))
    · intro a' he wx hb hd
      have e0 : a'.eval (.tmp 5) = .pointer (some ⟨N, 0, none⟩) := he.get rfl
      exact mStep_read_on rfl rfl rfl (hd 28 rfl _ _ rfl rfl) (by simp [execOp, e0]) rfl
    · intro a' he wx hb hd
      have e0 : a'.eval (.tmp 48) = .pointer (some ⟨N, 0, none⟩) := hd 31 rfl _ _ rfl rfl
      refine mStep_read_on rfl rfl rfl (hd 28 rfl _ _ rfl rfl) ?_ rfl
      simp only [execOp, e0]
      go_simp
    · intro a' he wx hb hd
      have e0 : a'.eval (.tmp 49) = .pointer (some ⟨N, 0, none⟩) := hd 32 rfl _ _ rfl rfl
      refine mStep_read_on rfl rfl rfl (hd 28 rfl _ _ rfl rfl) ?_ rfl
      simp only [execOp, e0]
      go_simp
    · intro a' he wx hb hd
      have e0 : a'.eval (.tmp 50) = .pointer (some ⟨N, 1, none⟩) := hd 33 rfl _ _ rfl rfl
      have c := (hR.below (hBx wx hb) hR.lt).c1
      refine mStep_read_on rfl rfl rfl (hd 28 rfl _ _ rfl rfl) ?_ rfl
      simp only [execOp, e0]
      go_simp
    · intro a' he wx hb hd
      have e0 : a'.eval (.tmp 51) = .int .i64 (r.2 : Nat) := hd 34 rfl _ _ rfl rfl
      refine mStep_read_on rfl rfl rfl (hd 28 rfl _ _ rfl rfl) ?_ rfl
      first | (simp [execOp, e0]; done) | (simp [execOp, e0]; go_simp; done) | (simp [execOp, e0, resolve]; go_simp; done) | (simp only [execOp, e0]; go_simp)
    · intro a' he wx hb hd
      have e0 : a'.eval (.tmp 47) = .iface 63 (.int .i64 (r.2 : Nat)) := hd 30 rfl _ _ rfl rfl
      have e1 : a'.eval (.tmp 52) = .iface 63 (.int .i64 (r.2 : Nat)) := hd 35 rfl _ _ rfl rfl
      exact mStep_call_on rfl rfl rfl (hd 28 rfl _ _ rfl rfl) (by simp [execOp, e0, e1, resolve]; rfl) (HS wx (hBx wx hb))
    · intro a' he wx hb hd
      have e0 : a'.eval (.tmp 45) = .bool true := hd 28 rfl _ _ rfl rfl
      have e1 : a'.eval (.tmp 53) = .bool true := hd 36 rfl _ _ rfl rfl
      refine mStep_read rfl ?_ rfl
      simp only [execOp, e0, e1]
      go_simp
    · intro a' he wx hb hd
      have e0 : a'.eval (.tmp 54) = .bool true := hd 37 rfl _ _ rfl rfl
      exact mStep_read rfl (by simp [execOp, e0]) rfl
    · intro a' he wx hb hd
      have e0 : a'.eval (.tmp 0) = .iface 83 (.pointer (some ⟨N, 0, none⟩)) := he.get rfl
      exact mStep_read_on rfl rfl rfl (hd 38 rfl _ _ rfl rfl) (by simp [execOp, e0]) rfl
    · intro a' he wx hb hd
      have e0 : a'.eval (.tmp 3) = .pointer (some ⟨z, 0, none⟩) := he.get rfl
      refine mStep_read_on rfl rfl rfl (hd 38 rfl _ _ rfl rfl) ?_ rfl
      simp only [execOp, e0]
      go_simp
    · intro a' he wx hb hd
      have e0 : a'.eval (.tmp 57) = .pointer (some ⟨z, 1, none⟩) := hd 40 rfl _ _ rfl rfl
      have c := (hZ.up (hBx wx hb)).cell 1
      refine mStep_read_on rfl rfl rfl (hd 38 rfl _ _ rfl rfl) ?_ rfl
      simp only [execOp, e0]
      go_simp
    · intro a' he wx hb hd
      have e0 : a'.eval (.tmp 58) = .int .i64 (r.2 : Nat) := hd 41 rfl _ _ rfl rfl
      refine mStep_read_on rfl rfl rfl (hd 38 rfl _ _ rfl rfl) ?_ rfl
      first | (simp [execOp, e0]; done) | (simp [execOp, e0]; go_simp; done) | (simp [execOp, e0, resolve]; go_simp; done) | (simp only [execOp, e0]; go_simp)
    · intro a' he wx hb hd
      have e0 : a'.eval (.tmp 56) = .iface 83 (.pointer (some ⟨N, 0, none⟩)) := hd 39 rfl _ _ rfl rfl
      have e1 : a'.eval (.tmp 59) = .iface 63 (.int .i64 (r.2 : Nat)) := hd 42 rfl _ _ rfl rfl
      exact mStep_call_on rfl rfl rfl (hd 38 rfl _ _ rfl rfl) (by simp [execOp, e0, e1, resolve]; rfl) (HX wx (hBx wx hb))
    · intro a' he wx hb hd
      have e0 : a'.eval (.tmp 55) = .bool true := hd 38 rfl _ _ rfl rfl
      have e1 : a'.eval (.tmp 60) = .bool true := hd 43 rfl _ _ rfl rfl
      refine mStep_read rfl ?_ rfl
      simp only [execOp, e0, e1]
      go_simp
  case fin =>
    rintro wx hb _ rfl _ rfl _ rfl _ rfl _ rfl _ rfl _ rfl _ rfl _ rfl _ rfl _ rfl _ rfl _ rfl _ rfl _ rfl _ rfl _ rfl _ rfl _ rfl _ rfl _ rfl _ rfl _ rfl _ rfl _ rfl u42 p42 _ rfl _ rfl _ rfl _ rfl _ rfl _ rfl _ rfl _ rfl _ rfl _ rfl _ rfl _ rfl _ rfl _ rfl _ rfl _ rfl _ rfl _ rfl _ rfl
    simp only [finV, Act.put, List.setIfInBounds_toArray, List.set_cons_succ, List.set_cons_zero, List.drop_succ_cons, List.drop_zero]
    have hbd : Below U.heap.size U wx := ⟨hb.os, hb.tape, hb.output, hb.size, hb.block⟩
    have hE := b1.trans (hbd.mono b1.size)
    clear HU HE HS HX p42
    go_wp2_with fail
    go_ret
    exact ⟨rfl, hE⟩
end Go.Proofs.YtplmmamebfpcjaaGreatDoor
end
section
/- tesseralaw5.fault, model.Bare: their contracts; ModelNumbers: the walk. -/
namespace Go.Proofs.YtplmmamebfpcjaaGreatDoor
open Go.RowKit Go.Sort Go.Joins
set_option linter.unusedVariables false
def spc : List Sp := [⟨32, 32⟩]
theorem made_u8 (n j : Nat) (h : j < n) : (madeCells (Value.int .u8 0).cells (n * 1))[j]? = some (.int .u8 0) := by simp [madeCells, h, Value.cells, Nat.mod_one]
theorem zero_get (n j : Nat) : (List.replicate n (0 : Int)).getD j 0 = 0 := by
  rw [List.getD_eq_getElem?_getD, List.getElem?_replicate]
  split <;> rfl
theorem mwf_mem {ms : List Mg} (h : ∀ x ∈ ms, W64 x.l ∧ W64 x.r ∧ W64 x.i) : MWf ms := fun _ _ hx => h _ (List.mem_of_getElem? hx)
theorem lstSpc {X : World} {g : Nat} (hs : X.heap.size = g) : Lst (X.alloc (.cells #[.int .i32 32, .int .i32 32] 78)) (some ⟨g, 0, none⟩) 1 spc := by
  refine ⟨Nat.le_refl _, by omega, ?_⟩
  subst hs
  exact SPS.new X spc _
theorem lstNil (w : World) : Lst w none 0 [] := ⟨Nat.le_refl _, by omega, .inl rfl⟩
set_option maxRecDepth 100000 in
set_option maxHeartbeats 4000000 in
theorem bare_any (a b c : Option Addr) (ca cb cc : Nat) (A B C : List Sp) (w : World) (hA : Lst w a ca A) (hB : Lst w b cb B) (hC : Lst w c cc C) (hG : GL w) (y li ro : Nat) (hy : checkD [] [] A B C = (y, li, ro)) :
    Calls Tryz.prog 61 #[.slice a A.length ca, .slice b B.length cb, .slice c C.length cc] w fun e w' => ∃ p, e = .returned (.tuple #[.pointer p, .agg #[.int .i64 (y : Nat), .int .i64 (li : Nat), .int .i64 (ro : Nat)]]) ∧ (y = 0 → ∃ g, p = some ⟨g, 0, none⟩ ∧ ModelAt w' w.heap.size g [] [] A B C) ∧ (y ≠ 0 → p = none) ∧ Below w.heap.size w w' := by
  have hR := Blk.new w (.cells #[.int .i64 0, .int .i64 0, .int .i64 0] 65)
  have b1 := box_below w (.cells #[.int .i64 0, .int .i64 0, .int .i64 0] 65)
  have hN := mnew_any none none a b c 0 0 ca cb cc [] [] A B C (w.alloc (.cells #[.int .i64 0, .int .i64 0, .int .i64 0] 65)) (fun i x h => by simp at h) (by simp) (.inl rfl) (.inl rfl) (hA.below b1) (hB.below b1) (hC.below b1) (hG.below b1)
  rw [hy] at hN
  unfold f3V at hN
  simp only [List.length_nil] at hN
  have hs : (w.alloc (.cells #[.int .i64 0, .int .i64 0, .int .i64 0] 65)).heap.size = w.heap.size + 1 := by simp
  clear hA hB hC hG hy
  go_enter Tryz.func61, Tryz.ntmps61
  go_wp2_with fail
  refine hN.mono ?_
  rintro e w1 ⟨p, rfl, hp1, hp2, hb1⟩
  rw [hs] at hp1
  have HP1 : Hid (y = 0 → ∃ g, p = some ⟨g, 0, none⟩ ∧ ModelAt w1 (w.heap.size + 1) g [] [] A B C) := hp1
  have HP2 : Hid (y ≠ 0 → p = none) := hp2
  have hR3 := hR.up hb1
  have B3 := b1.trans (hb1.mono b1.size)
  have z0 := hR3.cell 0
  have z1 := hR3.cell 1
  have z2 := hR3.cell 2
  have zf := fun j => hR3.free j
  clear hN hR b1 hb1 hs hp1 hp2
  go_wp2_with fail
  have hRR : w1.heap[w.heap.size]? = some (.cells #[.int .i64 0, .int .i64 0, .int .i64 0] 65 (0, 0)) := hR3
  have hfin := wr_set hRR (u0 := .int .i64 (y : Nat)) (u1 := .int .i64 (li : Nat)) (u2 := .int .i64 (ro : Nat))
  have hBf := wr_below B3 (g := w.heap.size) (u0 := .int .i64 (y : Nat)) (u1 := .int .i64 (li : Nat)) (u2 := .int .i64 (ro : Nat)) (Nat.le_refl _)
  have y0 := cell_of_block hfin (i := 0)
  have y1 := cell_of_block hfin (i := 1)
  have y2 := cell_of_block hfin (i := 2)
  exact bodyPost_ret (v := .tuple #[.pointer p, .agg #[.int .i64 (y : Nat), .int .i64 (li : Nat), .int .i64 (ro : Nat)]]) (by simp [results, Tryz.results61, go_sem, y0, y1, y2]) rfl ⟨p, rfl, fun h => by
    obtain ⟨g, h1, h2⟩ := HP1.out h
    exact ⟨g, h1, (((h2.away (b := w.heap.size) (o := 0) (by omega) (.int .i64 (y : Nat))).away (b := w.heap.size) (o := 1) (by omega) (.int .i64 (li : Nat))).away (b := w.heap.size) (o := 2) (by omega) (.int .i64 (ro : Nat))).low (by omega)⟩, HP2.out, hBf⟩
def longW : ByteArray := strOfNums (List.replicate 257 0)
theorem longW_size : longW.size = 257 := by decide +kernel
theorem chk0 : checkD [⟨#[97, 98]⟩, ⟨#[97, 98, 99]⟩] [⟨97, 98, 256⟩, ⟨256, 99, 257⟩] [] [] spc = (0, 0, 0) := by decide +kernel
theorem chk1 : checkD [⟨#[97, 98]⟩, ⟨#[97, 98, 99]⟩] [⟨256, 99, 257⟩, ⟨97, 98, 256⟩] [] [] spc = (23, 5, 0) := by decide +kernel
theorem chk2 : checkD [⟨#[97, 98]⟩] [⟨97, 99, 256⟩] [] [] spc = (25, 5, 0) := by decide +kernel
theorem chk3 : checkD [⟨#[97, 98]⟩] [⟨97, 98, 257⟩] [] [] spc = (24, 5, 0) := by decide +kernel
theorem chk4 : checkD [⟨#[97, 98]⟩] [⟨97, 98, 97⟩] [] [] spc = (24, 5, 0) := by decide +kernel
theorem chk5 : checkD [⟨#[97, 98]⟩, ⟨#[97, 98]⟩] [⟨97, 98, 256⟩, ⟨97, 98, 256⟩] [] [] spc = (22, 4, 1) := by decide +kernel
theorem chk6 : checkD [⟨#[97]⟩] [⟨97, 98, 256⟩] [] [] spc = (21, 4, 0) := by decide +kernel
theorem chk7 : checkD [longW] [⟨97, 98, 256⟩] [] [] spc = (21, 4, 0) := by
  have h : badW [longW] 0 = 21 := by unfold badW; simp only [List.getElem?_cons_zero]; rw [if_pos (by rw [longW_size]; omega)]
  have h2 : firstBad (badW [longW]) 1 = (21, 0) := by rw [← h]; exact firstBad_some (by omega) (fun j hj => absurd hj (Nat.not_lt_zero _)) (by rw [h]; decide)
  have h3 : (checkA [] [] spc).1 = 0 := by decide +kernel
  unfold checkD
  simp only [List.length_cons, List.length_nil]
  rw [if_neg (by omega), if_neg (by simp), if_neg (by simpa using h3), h2, if_pos (by decide)]
theorem chk8 : checkD [⟨#[97, 98]⟩] [] [] [] spc = (4, 4, 0) := by decide +kernel
theorem chk9 : checkD [] (List.replicate 4097 ⟨0, 0, 0⟩) [] [] spc = (4, 5, 4096) := by unfold checkD; rw [if_pos (by rw [List.length_replicate]; omega)]
theorem chkOk : checkD [] [] [] [] spc = (0, 0, 0) := by decide +kernel
theorem chkNo : checkD [] [] [] [] [] = (20, 3, 0) := by decide +kernel
theorem fq0_0_0 : ∀ W, (binOp BinOp.eql 65 (.agg #[.int .i64 0, .int .i64 0, .int .i64 0]) (.agg #[.int .i64 0, .int .i64 0, .int .i64 0])).run Tryz.prog W = .ok (.bool true) W := fun W => by kernel_rfl
theorem fq4_4_0 : ∀ W, (binOp BinOp.eql 65 (.agg #[.int .i64 4, .int .i64 4, .int .i64 0]) (.agg #[.int .i64 4, .int .i64 4, .int .i64 0])).run Tryz.prog W = .ok (.bool true) W := fun W => by kernel_rfl
theorem fq4_5_4096 : ∀ W, (binOp BinOp.eql 65 (.agg #[.int .i64 4, .int .i64 5, .int .i64 4096]) (.agg #[.int .i64 4, .int .i64 5, .int .i64 4096])).run Tryz.prog W = .ok (.bool true) W := fun W => by kernel_rfl
theorem fq20_3_0 : ∀ W, (binOp BinOp.eql 65 (.agg #[.int .i64 20, .int .i64 3, .int .i64 0]) (.agg #[.int .i64 20, .int .i64 3, .int .i64 0])).run Tryz.prog W = .ok (.bool true) W := fun W => by kernel_rfl
theorem fq21_4_0 : ∀ W, (binOp BinOp.eql 65 (.agg #[.int .i64 21, .int .i64 4, .int .i64 0]) (.agg #[.int .i64 21, .int .i64 4, .int .i64 0])).run Tryz.prog W = .ok (.bool true) W := fun W => by kernel_rfl
theorem fq22_4_1 : ∀ W, (binOp BinOp.eql 65 (.agg #[.int .i64 22, .int .i64 4, .int .i64 1]) (.agg #[.int .i64 22, .int .i64 4, .int .i64 1])).run Tryz.prog W = .ok (.bool true) W := fun W => by kernel_rfl
theorem fq23_5_0 : ∀ W, (binOp BinOp.eql 65 (.agg #[.int .i64 23, .int .i64 5, .int .i64 0]) (.agg #[.int .i64 23, .int .i64 5, .int .i64 0])).run Tryz.prog W = .ok (.bool true) W := fun W => by kernel_rfl
theorem fq24_5_0 : ∀ W, (binOp BinOp.eql 65 (.agg #[.int .i64 24, .int .i64 5, .int .i64 0]) (.agg #[.int .i64 24, .int .i64 5, .int .i64 0])).run Tryz.prog W = .ok (.bool true) W := fun W => by kernel_rfl
theorem fq25_5_0 : ∀ W, (binOp BinOp.eql 65 (.agg #[.int .i64 25, .int .i64 5, .int .i64 0]) (.agg #[.int .i64 25, .int .i64 5, .int .i64 0])).run Tryz.prog W = .ok (.bool true) W := fun W => by kernel_rfl
theorem fn20 : ∀ W, (binOp BinOp.neq 65 (.agg #[.int .i64 20, .int .i64 3, .int .i64 0]) (.agg #[.int .i64 20, .int .i64 3, .int .i64 0])).run Tryz.prog W = .ok (.bool false) W := fun W => by kernel_rfl
end Go.Proofs.YtplmmamebfpcjaaGreatDoor
end
section
/- tesseralaw6.bare: its contract. -/
namespace Go.Proofs.YtplmmamebfpcjaaGreatDoor
open Go.RowKit Go.Sort Go.Joins
set_option linter.unusedVariables false
set_option maxRecDepth 100000
/-- The file of the least model. -/
def bareF : List UInt8 := fileF [] [] [] [] spc
theorem bareF_len : bareF.length = 32 := by decide +kernel
set_option maxHeartbeats 4000000 in
theorem lawBare_any (w : World) (hG : GL w) : Calls Tryz.prog 29 #[] w (Oc.NewBytes w bareF) := by
  have hb := box_below w (.cells #[.int .i32 32, .int .i32 32] 78 (0, 0))
  have HB := bare_any none none (some ⟨w.heap.size, 0, none⟩) 0 0 1 [] [] spc (w.alloc (.cells #[.int .i32 32, .int .i32 32] 78)) (lstNil _) (lstNil _) (lstSpc rfl) (hG.below hb) 0 0 0 chkOk
  rw [show ([] : List Sp).length = 0 from rfl, show spc.length = 1 from rfl] at HB
  have hok : MOk [] [] [] [] spc := checkD_ok (by rw [chkOk])
  have HS := fun (g lo : Nat) (wx : World) h => save_any g lo [] [] [] [] spc wx hok h
  obtain ⟨U, hU⟩ : ∃ U, U = w.alloc (.cells #[.int .i32 32, .int .i32 32] 78 (0, 0)) := ⟨_, rfl⟩
  go_enter Tryz.func29, Tryz.ntmps29
  go_wp2_with fail
  rw [← hU] at hb HB ⊢
  refine HB.mono ?_
  rintro e w1 ⟨p, rfl, h1, h2, hb1⟩
  obtain ⟨g, rfl, hm⟩ := h1 trivial
  clear h2 HB h1 hU
  have hb2 := hb.trans (hb1.mono hb.size)
  have hb3 := box_below w1 (.cells #[.int .i64 0, .int .i64 0, .int .i64 0] 65 (0, 0))
  have hm2 := hm.below hb3
  have hb4 := hb2.trans (hb3.mono hb2.size)
  clear hm hb1 hb2 hb3
  go_wp2_with fail
  obtain ⟨V, hV⟩ : ∃ V, V = w1.alloc (.cells #[.int .i64 0, .int .i64 0, .int .i64 0] 65 (0, 0)) := ⟨_, rfl⟩
  rw [← hV] at hm2 hb4 ⊢
  refine (HS g _ V hm2).mono ?_
  rintro e w2 ⟨v, rfl, ho, hb5⟩
  clear HS hV
  go_wp2_with fail
  go_ret
  exact ⟨_, rfl, OwnB.low ho hb4.size, hb4.trans (hb5.mono hb4.size)⟩
end Go.Proofs.YtplmmamebfpcjaaGreatDoor
end
section
/- tesseralaw6.known: its contract. -/
namespace Go.Proofs.YtplmmamebfpcjaaGreatDoor
open Go.RowKit Go.Sort Go.Joins
set_option linter.unusedVariables false
set_option maxRecDepth 100000
theorem loadX : loadR [66, 80, 88, 49] = .error (2, 11) := by kernel_rfl
theorem loadB : (loadR bareF).toOption.map (fun r => (r.W, r.M, r.X, r.Y, r.Z)) = some ([], [], [], [], spc) := by kernel_rfl
/-- What Load leaves of the least model's file. -/
theorem loadQ_bare {w w' : World} {e : Ending} (h : LoadQ w w' bareF e) : ∃ g, e = .returned (.tuple #[.pointer (some ⟨g, 0, none⟩), .nilIface]) ∧ ModelAt w' w.heap.size g [] [] [] [] spc := by
  have hB := loadB
  unfold LoadQ at h
  cases hr : loadR bareF with
  | error r => rw [hr] at hB; cases hB
  | ok r =>
    rw [hr] at h hB
    simp only [Except.toOption, Option.map_some, Option.some.injEq, Prod.mk.injEq] at hB
    obtain ⟨e1, e2, e3, e4, e5⟩ := hB
    simp only [e1, e2, e3, e4, e5] at h
    exact h
theorem loadQ_err {w w' : World} {e : Ending} {l : List UInt8} {r : Er} (hl : loadR l = .error r) (h : LoadQ w w' l e) : ∃ N, e = .returned (.tuple #[.pointer none, .iface 83 (.pointer (some ⟨N, 0, none⟩))]) ∧ w.heap.size ≤ N ∧ Rf w' N r := by
  unfold LoadQ at h
  rw [hl] at h
  exact h
set_option maxHeartbeats 4000000 in
theorem lawKnown_any (w : World) (hG : GL w) (hP : PT w) : Calls Tryz.prog 9 #[] w fun e w' => e = .returned (.bool true) ∧ Below w.heap.size w w' := by
  have H0 := lawBare_any w hG
  go_enter Tryz.func9, Tryz.ntmps9
  go_wp2_with fail
  refine H0.mono ?_
  rintro e w1 ⟨v, rfl, ho, hb1⟩
  obtain ⟨g1, c1, rfl, q1, q2, q3, q4, hbs1⟩ := ho.form (by rw [bareF_len]; decide)
  have H1 := load_any (some ⟨g1, 0, none⟩) c1 bareF w1 (by rw [bareF_len]; decide) q3 hbs1 (hG.below hb1)
  rw [bareF_len] at H1
  rw [bareF_len]
  clear H0 ho hbs1 q1 q2 q3
  go_wp2_with fail
  refine H1.mono ?_
  rintro e w2 ⟨hq, hb2⟩
  obtain ⟨g, rfl, hm⟩ := loadQ_bare hq
  have B2 := hb1.trans (hb2.mono hb1.size)
  clear H1 hq
  have hb3 := (Below.refl w2.heap.size w2).alloc (Nat.le_refl _) (.cells #[.int .u8 66, .int .u8 80, .int .u8 88, .int .u8 49] 5 (4, 5))
  have hbs3 : Oc.BS (w2.alloc (.cells #[.int .u8 66, .int .u8 80, .int .u8 88, .int .u8 49] 5 (4, 5))) (some ⟨w2.heap.size, 0, none⟩) [66, 80, 88, 49] := Oc.BS.marked w2 [66, 80, 88, 49] 5 (4, 5)
  have hcv := run_convert_bytes_const_at (P := Tryz.prog) w2 32 5 #[.int .u8 66, .int .u8 80, .int .u8 88, .int .u8 49] 4 4 w2.heap.size rfl Tryz.underlying32 Tryz.underlying5
  go_wp2_with fail
  obtain ⟨V, hV⟩ : ∃ V, V = w2.alloc (.cells #[.int .u8 66, .int .u8 80, .int .u8 88, .int .u8 49] 5 (4, 5)) := ⟨_, rfl⟩
  rw [← hV] at hb3 hbs3 ⊢
  have B3 := B2.trans (hb3.mono B2.size)
  have hm3 := hm.below hb3
  have H2 := load_any (some ⟨w2.heap.size, 0, none⟩) 4 [66, 80, 88, 49] V (by decide) (by decide) hbs3 (hG.below B3)
  rw [show ([66, 80, 88, 49] : List UInt8).length = 4 from rfl] at H2
  clear hcv hbs3 hV hb3 hm
  refine H2.mono ?_
  rintro e w3 ⟨hq, hb4⟩
  obtain ⟨N, rfl, hN, hR⟩ := loadQ_err loadX hq
  have B4 := B3.trans (hb4.mono B3.size)
  have hm4 := hm3.below hb4
  have H3 := msize_any g _ [] [] [] [] spc w3 (by decide) hm4
  rw [show (256 + ((([] : List ByteArray).length : Nat) : Int)) = 256 from rfl] at H3
  have H4 := refused_true w3 N (2, 11) hR (by decide) (by decide) (by decide) (hP.stays B4)
  clear H2 hq hm3 hm4
  go_wp2_with fail
  refine H3.mono ?_
  rintro e w4 ⟨rfl, rfl⟩
  clear H3
  go_wp2_with fail
  refine H4.mono ?_
  rintro e w5 ⟨rfl, hb5⟩
  go_wp2_with fail
  go_ret
  exact ⟨rfl, B4.trans (hb5.mono B4.size)⟩
end Go.Proofs.YtplmmamebfpcjaaGreatDoor
end
section
/- tesserabook.Same and Intact of bytes: their contracts. -/
namespace Go.Proofs.YtplmmamebfpcjaaGreatDoor.Oc
set_option maxRecDepth 100000
open Go.RowKit
theorem same_step (l r : List UInt8) (k : Nat) (hk : k < l.length) (hl : l.length = r.length) (h : l.take k = r.take k) (e : (l.getD k 0).toNat = (r.getD k 0).toNat) : l.take (k + 1) = r.take (k + 1) := by
  have hk' : k < r.length := by omega
  rw [List.take_add_one, List.take_add_one, h, List.getElem?_eq_getElem hk, List.getElem?_eq_getElem hk']
  simp only [List.getD, List.getElem?_eq_getElem hk, List.getElem?_eq_getElem hk', Option.getD_some] at e
  rw [UInt8.toNat_inj.1 e]
theorem same_apart (l r : List UInt8) (k : Nat) (e : (l.getD k 0).toNat ≠ (r.getD k 0).toNat) : l ≠ r := by
  intro h; subst h; exact e rfl
set_option maxHeartbeats 400000 in
theorem same_len (a c : Option Addr) (cap cap' : Nat) (n m : Nat) (w : World) (h : n ≠ m) :
    Calls Tryz.prog 10 #[.slice a n cap, .slice c m cap'] w fun e w' => e = .returned (.bool false) ∧ Below w.heap.size w w' := by
  have h' : ((n : Int) != (m : Int)) = true := by simp; omega
  go_enter Tryz.func10, Tryz.ntmps10
  go_wp2
  go_ret
  exact ⟨rfl, Below.refl _ _⟩
set_option maxHeartbeats 400000 in
theorem same_none (a c : Option Addr) (cap cap' : Nat) (w : World) :
    Calls Tryz.prog 10 #[.slice a 0 cap, .slice c 0 cap'] w fun e w' => e = .returned (.bool true) ∧ Below w.heap.size w w' := by
  go_enter Tryz.func10, Tryz.ntmps10
  go_wp2
  refine wp_loop_rounds 1 ?_
  rw [rounds_succ]
  go_wp2
  go_ret
  exact ⟨rfl, Below.refl _ _⟩
set_option maxHeartbeats 800000 in
theorem same_some (b off cap b' off' cap' : Nat) (l r : List UInt8) (w : World) (hlen : l.length ≤ 9223372036854775807) (hl : l.length = r.length)
    (hc : ∀ j, j < l.length → w.cell? ⟨b, off + j, none⟩ = some (.int .u8 ((l.getD j 0).toNat : Int)))
    (hd : ∀ j, j < r.length → w.cell? ⟨b', off' + j, none⟩ = some (.int .u8 ((r.getD j 0).toNat : Int))) :
    Calls Tryz.prog 10 #[.slice (some ⟨b, off, none⟩) l.length cap, .slice (some ⟨b', off', none⟩) l.length cap'] w fun e w' => e = .returned (.bool (decide (l = r))) ∧ Below w.heap.size w w' := by
  obtain ⟨n, hn⟩ : ∃ n, n = l.length := ⟨_, rfl⟩
  have HL : Hid (l.length = r.length) := hl
  have HN : Hid (n = l.length) := hn
  rw [← hn] at hlen ⊢
  clear hl hn
  go_enter Tryz.func10, Tryz.ntmps10
  go_wp2
  go_loopw [5] (fun i wr => ∃ k : Nat, k ≤ n ∧ i = .int .i64 k ∧ l.take k = r.take k ∧ Below w.heap.size w wr) (fun i _ => n - (intOf i).toNat)
  case atStart => exact ⟨0, Nat.zero_le _, rfl, rfl, Below.refl _ _⟩
  case round =>
    obtain ⟨k, hk, rfl, hpre, hbr⟩ := hrel
    have HP : Hid (l.take k = r.take k) := hpre
    clear hpre
    by_cases hlt : k < n
    · have hkl : k < l.length := by rw [← HN.out]; exact hlt
      have hkr : k < r.length := by rw [← HL.out]; exact hkl
      have c1 := hc k hkl
      have c2 := hd k hkr
      rw [← hbr.cell (World.block_lt_of_cell? w _ c1)] at c1
      rw [← hbr.cell (World.block_lt_of_cell? w _ c2)] at c2
      obtain ⟨x, hx⟩ : ∃ x, x = (l.getD k 0).toNat := ⟨_, rfl⟩
      obtain ⟨y, hy⟩ : ∃ y, y = (r.getD k 0).toNat := ⟨_, rfl⟩
      rw [← hx] at c1
      rw [← hy] at c2
      have HX : Hid (x = (l.getD k 0).toNat) := hx
      have HY : Hid (y = (r.getD k 0).toNat) := hy
      clear hx hy hc hd hkl hkr
      go_wp2
      go_quiet (fail)
      go_wp2
      · have ht : ((x : Int) != (y : Int)) = true := by assumption
        have hne : x ≠ y := by intro e; subst e; simp at ht
        go_ret
        refine ⟨?_, below_drewN hbr nq⟩
        rw [decide_eq_false (same_apart l r k (by rw [← HX.out, ← HY.out]; exact hne))]
        rfl
      · have ht : ((x : Int) != (y : Int)) = false := by assumption
        have he : x = y := by
          have : (x : Int) = (y : Int) := by simpa using ht
          omega
        refine ⟨⟨k + 1, by omega, by go_num, ?_, below_drewN hbr nq⟩, by simp [intOf]; omega⟩
        exact same_step l r k (by rw [← HN.out]; exact hlt) HL.out HP.out (by rw [← HX.out, ← HY.out]; exact he)
    · have hkn : k = n := by omega
      subst hkn
      clear hc hd
      go_wp2
      go_ret
      refine ⟨?_, hbr⟩
      have h := HP.out
      rw [List.take_of_length_le (by rw [← HN.out]; exact Nat.le_refl _), List.take_of_length_le (by rw [← HL.out, ← HN.out]; exact Nat.le_refl _)] at h
      rw [decide_eq_true h]
      rfl
/-- THE CONTRACT of Same. -/
theorem same_any (a c : Option Addr) (cap cap' : Nat) (l r : List UInt8) (w : World) (hlen : l.length ≤ 9223372036854775807) (hl : BS w a l) (hr : BS w c r) :
    Calls Tryz.prog 10 #[.slice a l.length cap, .slice c r.length cap'] w fun e w' => e = .returned (.bool (decide (l = r))) ∧ Below w.heap.size w w' := by
  by_cases h : l.length = r.length
  · rcases hl with rfl | ⟨b, off, rfl, hc⟩
    · have : r = [] := List.eq_nil_of_length_eq_zero (by simpa using h.symm)
      subst this
      exact same_none a c cap cap' w
    · rcases hr with rfl | ⟨b', off', rfl, hd⟩
      · have : l = [] := List.eq_nil_of_length_eq_zero (by simpa using h)
        subst this
        exact same_none _ c cap cap' w
      · rw [← h]
        exact same_some b off cap b' off' cap' l r w hlen h hc hd
  · rw [decide_eq_false (fun e => h (by rw [e]))]
    exact same_len a c cap cap' _ _ w h
end Go.Proofs.YtplmmamebfpcjaaGreatDoor.Oc
end
section
/- FileBack: the walk. -/
namespace Go.Proofs.YtplmmamebfpcjaaGreatDoor
open Go.RowKit Go.Sort Go.Joins
set_option linter.unusedVariables false
theorem loadQ_ok {w w' : World} {e : Ending} {l : List UInt8} {r : Raw} (hl : loadR l = .ok r) (h : LoadQ w w' l e) : ∃ g, e = .returned (.tuple #[.pointer (some ⟨g, 0, none⟩), .nilIface]) ∧ ModelAt w' w.heap.size g r.W r.M r.X r.Y r.Z := by
  unfold LoadQ at h
  rw [hl] at h
  exact h
theorem file_pos (ws : List ByteArray) (ms : List Mg) (A B C : List Sp) : 24 ≤ (fileF ws ms A B C).length := by
  unfold fileF bodyF
  simp only [List.length_append, spansF_len, be4_length]
  have e : magicL.length = 4 := rfl
  omega
theorem same_self (a c : Option Addr) (cap cap' : Nat) (l : List UInt8) (w : World) (hlen : l.length ≤ 9223372036854775807) (hl : Oc.BS w a l) (hr : Oc.BS w c l) :
    Calls Tryz.prog 10 #[.slice a l.length cap, .slice c l.length cap'] w fun e w' => e = .returned (.bool true) ∧ Below w.heap.size w w' := by
  have h := Oc.same_any a c cap cap' l l w hlen hl hr
  rw [show decide (l = l) = true by simp] at h
  exact h
set_option maxRecDepth 100000 in
set_option maxHeartbeats 4000000 in
theorem fback_walk (aw am a b c : Option Addr) (cw cm ca cb cc : Nat) (ws : List ByteArray) (ms : List Mg) (A B C : List Sp) (fa : Option Addr) (fc : Nat) (l : List UInt8) (w : World) (hwf : MWf ms) (hn : ws.length ≤ 8796093022208 ∧ ms.length ≤ 5864062014805 ∧ A.length ≤ 17592186044416 ∧ B.length ≤ 17592186044416 ∧ C.length ≤ 17592186044416) (hW : WSP w aw ws) (hM : MSP w am ms) (hA : Lst w a ca A) (hB : Lst w b cb B) (hC : Lst w c cc C) (hlen : l.length ≤ 9223372036854775807) (hcap : l.length ≤ fc) (hf : Oc.BS w fa l) (hG : GL w) (hP : PT w) :
    Calls Tryz.prog 5 #[.agg #[.slice aw ws.length cw, .slice am ms.length cm, .slice a A.length ca, .slice b B.length cb, .slice c C.length cc], .slice fa l.length fc] w fun e w' => e = .returned (.bool true) ∧ Below w.heap.size w w' := by
  have hD := DBox.new w (.slice aw ws.length cw) (.slice am ms.length cm) (.slice a A.length ca) (.slice b B.length cb) (.slice c C.length cc)
  have hb0 := box_below w (.cells #[.slice aw ws.length cw, .slice am ms.length cm, .slice a A.length ca, .slice b B.length cb, .slice c C.length cc] 26)
  have HW : Hid (WSP w aw ws) := hW
  have HM : Hid (MSP w am ms) := hM
  have HA : Hid (Lst w a ca A) := hA
  have HB : Hid (Lst w b cb B) := hB
  have HC : Hid (Lst w c cc C) := hC
  have HG : Hid (GL w) := hG
  have HP : Hid (PT w) := hP
  have HF : Hid (Oc.BS w fa l) := hf
  have HN : Hid (ws.length ≤ 8796093022208 ∧ ms.length ≤ 5864062014805 ∧ A.length ≤ 17592186044416 ∧ B.length ≤ 17592186044416 ∧ C.length ≤ 17592186044416) := hn
  clear hW hM hA hB hC hG hP hf
  have x0 := hD.c0
  have x1 := hD.c1
  have x2 := hD.c2
  have x3 := hD.c3
  have x4 := hD.c4
  go_enter Tryz.func5, Tryz.ntmps5
  go_wp2_with fail
  obtain ⟨Y, hY⟩ : ∃ Y, Y = w.alloc (.cells #[.slice aw ws.length cw, .slice am ms.length cm, .slice a A.length ca, .slice b B.length cb, .slice c C.length cc] 26) := ⟨_, rfl⟩
  rw [← hY] at hb0 hD ⊢
  clear hY x0 x1 x2 x3 x4
  obtain ⟨z, hz⟩ : ∃ z, z = w.heap.size := ⟨_, rfl⟩
  have HZ : Hid (z = w.heap.size) := hz
  rw [← hz] at hD ⊢
  clear hz
  refine (keepOf_any aw am a b c cw cm ca cb cc ws ms A B C Y hwf (by omega) (HW.out.below hb0) (HM.out.below hb0) (HA.out.below hb0) (HB.out.below hb0) (HC.out.below hb0) (HG.out.below hb0)).mono ?_
  rintro e w1 ⟨p, rfl, hp1, hp2, hb1⟩
  have B1 := hb0.trans (hb1.mono hb0.size)
  have hD1 := hD.below hb1 hD.lt
  cases hU : upB ws ms A B C with
  | false =>
    obtain rfl := hp2 hU
    clear hp1 hp2 hU hb1 hb0 hD hD1 hn
    have HLd := load_any fa fc l w1 hlen hcap (HF.out.below B1) (HG.out.below B1)
    go_wp2_with fail
    refine HLd.mono ?_
    rintro e x1 ⟨hq, hbx1⟩
    have X1 := B1.trans (hbx1.mono B1.size)
    clear HLd hbx1
    cases hr : loadR l with
    | error r =>
      obtain ⟨N, rfl, -, -⟩ := loadQ_err hr hq
      clear hq hr
      go_wp2_with fail
      refine (lawKnown_any x1 (HG.out.below X1) (HP.out.stays X1)).mono ?_
      rintro e x2 ⟨rfl, hbx2⟩
      go_wp2_with fail
      go_ret
      exact ⟨rfl, X1.trans (hbx2.mono X1.size)⟩
    | ok r =>
      obtain ⟨g2, rfl, hM2⟩ := loadQ_ok hr hq
      obtain ⟨hbk, hck⟩ := load_back hr
      have HS2 := save_any g2 _ r.W r.M r.X r.Y r.Z x1 (checkD_ok hck) hM2
      have hpos := file_pos r.W r.M r.X r.Y r.Z
      rw [hbk] at HS2 hpos
      clear hq hr hbk hck hM2
      go_wp2_with fail
      refine HS2.mono ?_
      rintro e x2 ⟨v2, rfl, ho2, hbx2⟩
      obtain ⟨gy, cy, rfl, y1, y2, y3, y4, hbs2⟩ := ho2.form (by omega)
      have X2 := X1.trans (hbx2.mono X1.size)
      have HSame := same_self (some ⟨gy, 0, none⟩) fa cy fc l x2 hlen hbs2 (HF.out.below X2)
      clear HS2 ho2 hbs2 hbx2 y1 y2 y3 y4
      go_wp2_with fail
      refine HSame.mono ?_
      rintro e x3 ⟨rfl, hbx3⟩
      have X3 := X2.trans (hbx3.mono X2.size)
      clear HSame hbx3
      go_wp2_with fail
      refine (lawKnown_any x3 (HG.out.below X3) (HP.out.stays X3)).mono ?_
      rintro e x4 ⟨rfl, hbx4⟩
      go_wp2_with fail
      go_ret
      exact ⟨rfl, X3.trans (hbx4.mono X3.size)⟩
  | true =>
    obtain ⟨g, rfl, hMd⟩ := hp1 hU
    have hK := upB_ok hU
    have hcd : (checkD ws ms A B C).1 = 0 := by
      unfold upB at hU
      simp only [Bool.and_eq_true, decide_eq_true_eq] at hU
      exact hU.2
    obtain ⟨r0, hr0, eW, eM, eX, eY, eZ⟩ := load_file hcd
    have hpos := file_pos ws ms A B C
    have hfl := file_len hK
    have HK0 : Hid (MOk ws ms A B C) := hK
    have HS := save_any g _ ws ms A B C w1 hK hMd
    obtain ⟨F, hF⟩ : ∃ F, F = fileF ws ms A B C := ⟨_, rfl⟩
    rw [← hF] at hpos hfl HS hr0
    have HMd : Hid (ModelAt w1 Y.heap.size g ws ms A B C) := hMd
    clear hp1 hp2 hU hb1 hb0 hD hK hMd hcd hF
    go_wp2_with fail
    refine HS.mono ?_
    rintro e w2 ⟨v, rfl, ho, hb2⟩
    obtain ⟨gs, cs, rfl, q1, q2, q3, q4, hbs⟩ := ho.form (by omega)
    have B2 := B1.trans (hb2.mono B1.size)
    have hM2 := HMd.out.below hb2
    have hD2 := hD1.below hb2 hD1.lt
    have HL0 := load_any (some ⟨gs, 0, none⟩) cs F w2 (by omega) q3 hbs (HG.out.below B2)
    clear HS ho hb2 hbs q1 q2 q3 q4 hD1 HMd
    go_wp2_with fail
    refine HL0.mono ?_
    rintro e w3 ⟨hq0, hb3⟩
    obtain ⟨gx, rfl, hMx⟩ := loadQ_ok hr0 hq0
    rw [eW, eM, eX, eY, eZ] at hMx
    have B3 := B2.trans (hb3.mono B2.size)
    have hM3 := hM2.below hb3
    have hD3 := hD2.below hb3 hD2.lt
    obtain ⟨lo, hlo⟩ : ∃ lo, lo = Y.heap.size := ⟨_, rfl⟩
    rw [← hlo] at hM3
    have hlow : lo ≤ w3.heap.size := by
      obtain ⟨a0, c0, a1, c1, a2, c2, a3, c3, a4, c4, gt, gr, h1, h2, h3, -⟩ := hM3
      exact Nat.le_trans h1 (Nat.le_of_lt (Array.getElem?_eq_some_iff.1 h3).1)
    clear HL0 hq0 hb3 hM2 hD2 hlo hr0 eW eM eX eY eZ hpos hfl
    have hlw : ws.length ≤ 4611686018427387904 := by omega
    have HL1 : ∀ wx, Below w3.heap.size w3 wx → Calls Tryz.prog 20 #[.pointer (some ⟨gx, 0, none⟩)] wx fun e w' => ∃ v, e = .returned v ∧ Below wx.heap.size wx w' ∧ v = .int .i64 (longM ws : Nat) := fun wx hbx => by
      refine (mlongest_any gx _ ws ms A B C wx (hMx.below hbx)).mono ?_
      rintro e w' ⟨rfl, rfl⟩
      exact ⟨_, rfl, Below.refl _ _, rfl⟩
    have HL2 : ∀ wx, Below w3.heap.size w3 wx → Calls Tryz.prog 20 #[.pointer (some ⟨g, 0, none⟩)] wx fun e w' => ∃ v, e = .returned v ∧ Below wx.heap.size wx w' ∧ v = .int .i64 (longM ws : Nat) := fun wx hbx => by
      refine (mlongest_any g _ ws ms A B C wx (hM3.below hbx)).mono ?_
      rintro e w' ⟨rfl, rfl⟩
      exact ⟨_, rfl, Below.refl _ _, rfl⟩
    have HDt : ∀ wx, Below w3.heap.size w3 wx → Calls Tryz.prog 19 #[.pointer (some ⟨gx, 0, none⟩)] wx fun e w' => ∃ v, e = .returned v ∧ Below wx.heap.size wx w' ∧ ∃ a0 c0 a1 c1 a2 c2 a3 c3 a4 c4, v = .agg #[.slice a0 ws.length c0, .slice a1 ms.length c1, .slice a2 A.length c2, .slice a3 B.length c3, .slice a4 C.length c4] ∧ OwnD w' lo a0 c0 a1 c1 a2 c2 a3 c3 a4 c4 ws ms A B C := fun wx hbx => by
      refine (data_any gx _ ws ms A B C wx HK0.out (hMx.below hbx)).mono ?_
      rintro e w' ⟨a0, c0, a1, c1, a2, c2, a3, c3, a4, c4, rfl, h, h'⟩
      exact ⟨_, rfl, h', _, _, _, _, _, _, _, _, _, _, rfl, h.low (by have := hbx.size; omega)⟩
    have HSm : ∀ a0 c0 a1 c1 a2 c2 a3 c3 a4 c4 wx, Below w3.heap.size w3 wx → OwnD wx lo a0 c0 a1 c1 a2 c2 a3 c3 a4 c4 ws ms A B C → Calls Tryz.prog 18 #[.agg #[.slice a0 ws.length c0, .slice a1 ms.length c1, .slice a2 A.length c2, .slice a3 B.length c3, .slice a4 C.length c4], .agg #[.slice aw ws.length cw, .slice am ms.length cm, .slice a A.length ca, .slice b B.length cb, .slice c C.length cc]] wx fun e w' => ∃ v, e = .returned v ∧ Below wx.heap.size wx w' ∧ v = .bool true := fun a0 c0 a1 c1 a2 c2 a3 c3 a4 c4 wx hbx hO => by
      have hBB := B3.trans (hbx.mono B3.size)
      obtain ⟨s3, s4, q1, q2, o2, u2, o3, u3, o4⟩ := hO.spans
      refine (keepSame_any a0 a1 a2 a3 a4 aw am a b c c0 c1 c2 c3 c4 cw cm ca cb cc ws ms A B C wx (by have := HN.out; omega) hO.words.row.sp hO.merges.row.sp o2.row.sp o3.row.sp o4.row.sp (HW.out.below hBB) (HM.out.below hBB) (HA.out.below hBB).at' (HB.out.below hBB).at' (HC.out.below hBB).at').mono ?_
      rintro e w' ⟨rfl, h⟩
      exact ⟨_, rfl, h, rfl⟩
    have HD4 : Hid (DBox w3 z _ _ _ _ _) := hD3
    have HB3 : Hid (Below w.heap.size w w3) := B3
    clear HW HM HA HB HC HN HK0 hMx hM3 hlow hD3 B3 B2 B1 hn hlw
    go_wp2_with fail
    have hD4 := HD4.out
    refine wp_region_mono 20 [31, 32, 33, 34, 35, 36, 37, 38, 39, 40, 41, 42, 43, 44, 45, 46, 47, 48, 49, 50] [qR (.nilIface),
        qR (.bool false),
        qR (.bool false),
        qR (.pointer (some ⟨gx, 0, none⟩)),
        qR (.bool false),
        qR (.bool false),
        qR (.bool false),
        qR (.pointer (some ⟨gx, 0, none⟩)),
        fun v wx => ∃ a0 c0 a1 c1 a2 c2 a3 c3 a4 c4, v = .agg #[.slice a0 ws.length c0, .slice a1 ms.length c1, .slice a2 A.length c2, .slice a3 B.length c3, .slice a4 C.length c4] ∧ OwnD wx lo a0 c0 a1 c1 a2 c2 a3 c3 a4 c4 ws ms A B C,
        qR (.agg #[.slice aw ws.length cw, .slice am ms.length cm, .slice a A.length ca, .slice b B.length cb, .slice c C.length cc]),
        qR (.bool true),
        qR (.bool false),
        qR (.bool false),
        qR (.bool false),
        qR (.pointer (some ⟨gx, 0, none⟩)),
        qR (.int .i64 (longM ws : Nat)),
        qR (.pointer (some ⟨g, 0, none⟩)),
        qR (.int .i64 (longM ws : Nat)),
        qR (.bool false),
        qR (.bool false)] (by kernel_rfl) (by kernel_rfl) rfl rfl ?stab ?steps ?fin
    case stab =>
      intro φ hφ
      simp only [List.mem_cons, List.not_mem_nil, or_false] at hφ
      rcases hφ with rfl | rfl | rfl | rfl | rfl | rfl | rfl | rfl | rfl | rfl | rfl | rfl | rfl | rfl | rfl | rfl | rfl | rfl | rfl | rfl
      · exact fun _ _ _ _ h => h
      · exact fun _ _ _ _ h => h
      · exact fun _ _ _ _ h => h
      · exact fun _ _ _ _ h => h
      · exact fun _ _ _ _ h => h
      · exact fun _ _ _ _ h => h
      · exact fun _ _ _ _ h => h
      · exact fun _ _ _ _ h => h
      · rintro v wx w' hb ⟨a0, c0, a1, c1, a2, c2, a3, c3, a4, c4, h1, h2⟩
        exact ⟨a0, c0, a1, c1, a2, c2, a3, c3, a4, c4, h1, h2.below hb⟩
      · exact fun _ _ _ _ h => h
      · exact fun _ _ _ _ h => h
      · exact fun _ _ _ _ h => h
      · exact fun _ _ _ _ h => h
      · exact fun _ _ _ _ h => h
      · exact fun _ _ _ _ h => h
      · exact fun _ _ _ _ h => h
      · exact fun _ _ _ _ h => h
      · exact fun _ _ _ _ h => h
      · exact fun _ _ _ _ h => h
      · exact fun _ _ _ _ h => h
    case steps =>
      have hBx : ∀ wx, Below w3.drew.heap.size w3.drew wx → Below w3.heap.size w3 wx := fun wx hb => ⟨hb.os, hb.tape, hb.output, hb.size, hb.block⟩
      refine ⟨?_, ?_, ?_, ?_, ?_, ?_, ?_, ?_, ?_, ?_, ?_, ?_, ?_, ?_, ?_, ?_, ?_, ?_, ?_, ?_, trivial⟩
      · intro a' he wx hb hd
        have e0 : a'.eval (.tmp 9) = .nilIface := he.get rfl
        exact mStep_read rfl (by simp [execOp, e0]) rfl
      · intro a' he wx hb hd
        have e0 : a'.eval (.tmp 31) = .nilIface := hd 0 rfl _ _ rfl rfl
        refine mStep_read rfl ?_ rfl
        first | (simp [execOp, e0]; done) | (simp [execOp, e0]; go_simp; done) | (simp [execOp, e0, resolve]; go_simp; done) | (simp only [execOp, e0]; go_simp)
      · intro a' he wx hb hd
        have e0 : a'.eval (.tmp 32) = .bool false := hd 1 rfl _ _ rfl rfl
        exact mStep_read rfl (by simp [execOp, e0]) rfl
      · intro a' he wx hb hd
        have e0 : a'.eval (.tmp 8) = .pointer (some ⟨gx, 0, none⟩) := he.get rfl
        exact mStep_read_on rfl rfl rfl (hd 2 rfl _ _ rfl rfl) (by simp [execOp, e0]) rfl
      · intro a' he wx hb hd
        have e0 : a'.eval (.tmp 34) = .pointer (some ⟨gx, 0, none⟩) := hd 3 rfl _ _ rfl rfl
        refine mStep_read_on rfl rfl rfl (hd 2 rfl _ _ rfl rfl) ?_ rfl
        first | (simp [execOp, e0]; done) | (simp [execOp, e0]; go_simp; done) | (simp [execOp, e0, resolve]; go_simp; done) | (simp only [execOp, e0]; go_simp)
      · intro a' he wx hb hd
        have e0 : a'.eval (.tmp 33) = .bool false := hd 2 rfl _ _ rfl rfl
        have e1 : a'.eval (.tmp 35) = .bool false := hd 4 rfl _ _ rfl rfl
        refine mStep_read rfl ?_ rfl
        simp only [execOp, e0, e1]
        go_simp
      · intro a' he wx hb hd
        have e0 : a'.eval (.tmp 36) = .bool false := hd 5 rfl _ _ rfl rfl
        exact mStep_read rfl (by simp [execOp, e0]) rfl
      · intro a' he wx hb hd
        have e0 : a'.eval (.tmp 8) = .pointer (some ⟨gx, 0, none⟩) := he.get rfl
        exact mStep_read_on rfl rfl rfl (hd 6 rfl _ _ rfl rfl) (by simp [execOp, e0]) rfl
      · intro a' he wx hb hd
        have e0 : a'.eval (.tmp 38) = .pointer (some ⟨gx, 0, none⟩) := hd 7 rfl _ _ rfl rfl
        exact mStep_call_on rfl rfl rfl (hd 6 rfl _ _ rfl rfl) (by simp [execOp, e0, resolve]; rfl) (HDt wx (hBx wx hb))
      · intro a' he wx hb hd
        have e0 : a'.eval (.tmp 2) = .pointer (some ⟨z, 0, none⟩) := he.get rfl
        have hDx := hD4.below (hBx wx hb) hD4.lt
        have c0 := hDx.c0
        have c1 := hDx.c1
        have c2 := hDx.c2
        have c3 := hDx.c3
        have c4 := hDx.c4
        refine mStep_read_on rfl rfl rfl (hd 6 rfl _ _ rfl rfl) ?_ rfl
        simp only [execOp, e0]
        go_simp
      · intro a' he wx hb hd
        have e0 := hd 8 rfl _ _ rfl rfl
        have e1 : a'.eval (.tmp 40) = .agg #[.slice aw ws.length cw, .slice am ms.length cm, .slice a A.length ca, .slice b B.length cb, .slice c C.length cc] := hd 9 rfl _ _ rfl rfl
        obtain ⟨a0, c0, a1, c1, a2, c2, a3, c3, a4, c4, e0, hO⟩ := e0
        exact mStep_call_on rfl rfl rfl (hd 6 rfl _ _ rfl rfl) (by simp [execOp, resolve, e0, e1]; rfl) (HSm a0 c0 a1 c1 a2 c2 a3 c3 a4 c4 wx (hBx wx hb) hO)
      · intro a' he wx hb hd
        have e0 : a'.eval (.tmp 41) = .bool true := hd 10 rfl _ _ rfl rfl
        refine mStep_read_on rfl rfl rfl (hd 6 rfl _ _ rfl rfl) ?_ rfl
        first | (simp [execOp, e0]; done) | (simp [execOp, e0]; go_simp; done) | (simp [execOp, e0, resolve]; go_simp; done) | (simp only [execOp, e0]; go_simp)
      · intro a' he wx hb hd
        have e0 : a'.eval (.tmp 37) = .bool false := hd 6 rfl _ _ rfl rfl
        have e1 : a'.eval (.tmp 42) = .bool false := hd 11 rfl _ _ rfl rfl
        refine mStep_read rfl ?_ rfl
        simp only [execOp, e0, e1]
        go_simp
      · intro a' he wx hb hd
        have e0 : a'.eval (.tmp 43) = .bool false := hd 12 rfl _ _ rfl rfl
        exact mStep_read rfl (by simp [execOp, e0]) rfl
      · intro a' he wx hb hd
        have e0 : a'.eval (.tmp 8) = .pointer (some ⟨gx, 0, none⟩) := he.get rfl
        exact mStep_read_on rfl rfl rfl (hd 13 rfl _ _ rfl rfl) (by simp [execOp, e0]) rfl
      · intro a' he wx hb hd
        have e0 : a'.eval (.tmp 45) = .pointer (some ⟨gx, 0, none⟩) := hd 14 rfl _ _ rfl rfl
        exact mStep_call_on rfl rfl rfl (hd 13 rfl _ _ rfl rfl) (by simp [execOp, e0, resolve]; rfl) (HL1 wx (hBx wx hb))
      · intro a' he wx hb hd
        have e0 : a'.eval (.tmp 5) = .pointer (some ⟨g, 0, none⟩) := he.get rfl
        exact mStep_read_on rfl rfl rfl (hd 13 rfl _ _ rfl rfl) (by simp [execOp, e0]) rfl
      · intro a' he wx hb hd
        have e0 : a'.eval (.tmp 47) = .pointer (some ⟨g, 0, none⟩) := hd 16 rfl _ _ rfl rfl
        exact mStep_call_on rfl rfl rfl (hd 13 rfl _ _ rfl rfl) (by simp [execOp, e0, resolve]; rfl) (HL2 wx (hBx wx hb))
      · intro a' he wx hb hd
        have e0 : a'.eval (.tmp 46) = .int .i64 (longM ws : Nat) := hd 15 rfl _ _ rfl rfl
        have e1 : a'.eval (.tmp 48) = .int .i64 (longM ws : Nat) := hd 17 rfl _ _ rfl rfl
        refine mStep_read_on rfl rfl rfl (hd 13 rfl _ _ rfl rfl) ?_ rfl
        first | (simp [execOp, e0, e1]; done) | (simp [execOp, e0, e1]; go_simp; done) | (simp [execOp, e0, e1, resolve]; go_simp; done) | (simp only [execOp, e0, e1]; go_simp)
      · intro a' he wx hb hd
        have e0 : a'.eval (.tmp 44) = .bool false := hd 13 rfl _ _ rfl rfl
        have e1 : a'.eval (.tmp 49) = .bool false := hd 18 rfl _ _ rfl rfl
        refine mStep_read rfl ?_ rfl
        simp only [execOp, e0, e1]
        go_simp
    case fin =>
      rintro wx hb _ rfl _ rfl _ rfl _ rfl _ rfl _ rfl _ rfl _ rfl u39 p39 _ rfl _ rfl _ rfl _ rfl _ rfl _ rfl _ rfl _ rfl _ rfl _ rfl _ rfl
      simp only [finV, Act.put, List.setIfInBounds_toArray, List.set_cons_succ, List.set_cons_zero, List.drop_succ_cons, List.drop_zero]
      have hb5 : Below w3.heap.size w3 wx := ⟨hb.os, hb.tape, hb.output, hb.size, hb.block⟩
      have B6 := HB3.out.trans (hb5.mono HB3.out.size)
      clear HL1 HL2 HDt HSm HD4 hD4 HB3 hb hb5
      have HLd := load_any fa fc l wx hlen hcap (HF.out.below B6) (HG.out.below B6)
      go_wp2_with fail
      refine HLd.mono ?_
      rintro e x1 ⟨hq, hbx1⟩
      have X1 := B6.trans (hbx1.mono B6.size)
      clear HLd hbx1
      cases hr : loadR l with
      | error r =>
        obtain ⟨N, rfl, -, -⟩ := loadQ_err hr hq
        clear hq hr
        go_wp2_with fail
        refine (lawKnown_any x1 (HG.out.below X1) (HP.out.stays X1)).mono ?_
        rintro e x2 ⟨rfl, hbx2⟩
        go_wp2_with fail
        go_ret
        exact ⟨rfl, X1.trans (hbx2.mono X1.size)⟩
      | ok r =>
        obtain ⟨g2, rfl, hM2⟩ := loadQ_ok hr hq
        obtain ⟨hbk, hck⟩ := load_back hr
        have HS2 := save_any g2 _ r.W r.M r.X r.Y r.Z x1 (checkD_ok hck) hM2
        have hpos := file_pos r.W r.M r.X r.Y r.Z
        rw [hbk] at HS2 hpos
        clear hq hr hbk hck hM2
        go_wp2_with fail
        refine HS2.mono ?_
        rintro e x2 ⟨v2, rfl, ho2, hbx2⟩
        obtain ⟨gy, cy, rfl, y1, y2, y3, y4, hbs2⟩ := ho2.form (by omega)
        have X2 := X1.trans (hbx2.mono X1.size)
        have HSame := same_self (some ⟨gy, 0, none⟩) fa cy fc l x2 hlen hbs2 (HF.out.below X2)
        clear HS2 ho2 hbs2 hbx2 y1 y2 y3 y4
        go_wp2_with fail
        refine HSame.mono ?_
        rintro e x3 ⟨rfl, hbx3⟩
        have X3 := X2.trans (hbx3.mono X2.size)
        clear HSame hbx3
        go_wp2_with fail
        refine (lawKnown_any x3 (HG.out.below X3) (HP.out.stays X3)).mono ?_
        rintro e x4 ⟨rfl, hbx4⟩
        go_wp2_with fail
        go_ret
        exact ⟨rfl, X3.trans (hbx4.mono X3.size)⟩
end Go.Proofs.YtplmmamebfpcjaaGreatDoor
end
