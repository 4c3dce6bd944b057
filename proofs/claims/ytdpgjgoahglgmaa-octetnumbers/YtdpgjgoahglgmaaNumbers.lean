/- OctetNumbers: the walk. -/
import Derived.Test.YtdpgjgoahglgmaaKnown
import Derived.Test.YtdpgjgoahglgmaaGetText
namespace Go.Proofs.Ytdpgjgoahglgmaa
open Go.RowKit
theorem num_e1 : getTextR [0, 0, 0, 2, 97] 0 9 = ([], 0, 10) := by decide
theorem num_e2 : getTextR [0, 0, 0, 2, 97, 98] 0 1 = ([], 0, 3) := by decide
theorem num_e3 : getR [0, 0, 1, 2] 1 = (0, 0, 10) := by decide
theorem num_e4 : getR [0, 0, 1, 2] 5 = (0, 0, 1) := by decide
theorem num_e5 : getR [0, 0, 1, 2] (-1) = (0, 0, 1) := by decide
theorem num_e6 : crc [97] = 3904355907 := by kernel_rfl
theorem num_1 (w : World) : Calls Try.prog 9 #[.slice (some ⟨w.heap.size, 0, none⟩) 5 5, .int .i64 0, .int .i64 9] (w.alloc (.cells #[.int .u8 0, .int .u8 0, .int .u8 0, .int .u8 2, .int .u8 97] 5)) fun e w' =>
    e = .returned (.tuple #[.string ⟨#[]⟩, .int .i64 0, .int .i64 10]) ∧ Below w.heap.size w w' := by
  have h := gettext_any (some ⟨w.heap.size, 0, none⟩) 5 [0, 0, 0, 2, 97] 0 9 _ (by simp) (by simp) (BS.new w [0, 0, 0, 2, 97] 5) (by omega) (by omega)
  rw [num_e1] at h
  refine h.mono fun e w' ⟨h1, h2⟩ => ⟨h1, ?_⟩
  exact ((Below.refl _ _).alloc (Nat.le_refl _) _).trans (h2.mono (by simp))
theorem num_2 (w : World) : Calls Try.prog 9 #[.slice (some ⟨w.heap.size, 0, none⟩) 6 6, .int .i64 0, .int .i64 1] (w.alloc (.cells #[.int .u8 0, .int .u8 0, .int .u8 0, .int .u8 2, .int .u8 97, .int .u8 98] 5)) fun e w' =>
    e = .returned (.tuple #[.string ⟨#[]⟩, .int .i64 0, .int .i64 3]) ∧ Below w.heap.size w w' := by
  have h := gettext_any (some ⟨w.heap.size, 0, none⟩) 6 [0, 0, 0, 2, 97, 98] 0 1 _ (by simp) (by simp) (BS.new w [0, 0, 0, 2, 97, 98] 5) (by omega) (by omega)
  rw [num_e2] at h
  refine h.mono fun e w' ⟨h1, h2⟩ => ⟨h1, ?_⟩
  exact ((Below.refl _ _).alloc (Nat.le_refl _) _).trans (h2.mono (by simp))
theorem num_get (w : World) (i : Int) (r : Nat × Int × Int) (hr : getR [0, 0, 1, 2] i = r) : Calls Try.prog 10 #[.slice (some ⟨w.heap.size, 0, none⟩) 4 4, .int .i64 i] (w.alloc (.cells #[.int .u8 0, .int .u8 0, .int .u8 1, .int .u8 2] 5)) fun e w' =>
    e = .returned (.tuple #[.int .u32 (r.1 : Nat), .int .i64 r.2.1, .int .i64 r.2.2]) ∧ Below w.heap.size w w' := by
  have h := get_any (some ⟨w.heap.size, 0, none⟩) 4 [0, 0, 1, 2] i _ (by simp) (by simp) (BS.new w [0, 0, 1, 2] 5)
  rw [hr] at h
  refine h.mono fun e w' ⟨h1, h2⟩ => ⟨h1, ?_⟩
  exact ((Below.refl _ _).alloc (Nat.le_refl _) _).trans (h2.mono (by simp))
theorem num_6 (w : World) (fr : Nat × Nat) : Calls Try.prog 11 #[.slice (some ⟨w.heap.size, 0, none⟩) 1 1] (w.alloc (.cells #[.int .u8 97] 5 fr)) fun e w' =>
    e = .returned (.int .u32 3904355907) ∧ Below w.heap.size w w' := by
  have h := sum_any (some ⟨w.heap.size, 0, none⟩) 1 [97] _ (by simp) (BS.marked w [97] 5 fr)
  rw [num_e6] at h
  refine h.mono fun e w' ⟨h1, h2⟩ => ⟨h1, ?_⟩
  exact ((Below.refl _ _).alloc (Nat.le_refl _) _).trans (h2.mono (by simp))
set_option maxHeartbeats 800000 in
theorem numbers_walk (w : World) : Calls Try.prog 3 #[] w fun e w' => e = .returned (.bool true) ∧ Below w.heap.size w w' := by
  have hcv := fun wx : World => Lib.run_convert_bytes_const (P := Try.prog) wx 25 5 #[.int .u8 97] 1 1 Try.underlying25 Try.underlying5
  go_enter Try.func3, Try.ntmps3
  go_wp2_with fail
  refine (num_1 _).mono ?_; rintro e w1 ⟨rfl, hb1⟩
  go_wp2_with fail
  refine (num_2 _).mono ?_; rintro e w2 ⟨rfl, hb2⟩
  go_wp2_with fail
  refine (num_get _ 1 _ num_e3).mono ?_; rintro e w3 ⟨rfl, hb3⟩
  go_wp2_with fail
  refine (num_get _ 5 _ num_e4).mono ?_; rintro e w4 ⟨rfl, hb4⟩
  go_wp2_with fail
  refine (num_get _ (-1) _ num_e5).mono ?_; rintro e w5 ⟨rfl, hb5⟩
  go_wp2_with fail
  refine (sum_none none 0 _).mono ?_; rintro e w6 ⟨rfl, hb6⟩
  go_wp2_with fail
  refine (num_6 _ _).mono ?_; rintro e w7 ⟨rfl, hb7⟩
  go_wp2_with fail
  refine (known_any _).mono ?_; rintro e w8 ⟨rfl, hb8⟩
  go_wp2_with fail
  go_ret
  refine ⟨rfl, ?_⟩
  have s1 := hb1.size
  have s2 := hb2.size
  have s3 := hb3.size
  have s4 := hb4.size
  have s5 := hb5.size
  have s6 := hb6.size
  have s7 := hb7.size
  exact ((((((hb1.trans (hb2.mono (by omega))).trans (hb3.mono (by omega))).trans (hb4.mono (by omega))).trans (hb5.mono (by omega))).trans (hb6.mono (by omega))).trans (hb7.mono (by omega))).trans (hb8.mono (by omega))
end Go.Proofs.Ytdpgjgoahglgmaa
