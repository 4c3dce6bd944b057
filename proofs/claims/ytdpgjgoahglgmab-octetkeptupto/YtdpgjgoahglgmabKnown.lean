/- 'known' answers true. -/
import Derived.Test.YtdpgjgoahglgmabSum
import Derived.Test.YtdpgjgoahglgmabGet
import Derived.Lib.SmallJoins
namespace Go.Proofs.Ytdpgjgoahglgmab
open Go.RowKit
theorem known_get : getR [9, 0, 0, 1, 2] 1 = (258, 5, 0) := by decide
theorem known_crc : crc [49, 50, 51, 52, 53, 54, 55, 56, 57] = 3421780262 := by kernel_rfl
theorem known_1 (w : World) : Calls Try.prog 12 #[.slice (some ⟨w.heap.size, 0, none⟩) 5 5, .int .i64 1] (w.alloc (.cells #[.int .u8 9, .int .u8 0, .int .u8 0, .int .u8 1, .int .u8 2] 5)) fun e w' =>
    e = .returned (.tuple #[.int .u32 258, .int .i64 5, .int .i64 0]) ∧ Below w.heap.size w w' := by
  have h := get_any (some ⟨w.heap.size, 0, none⟩) 5 [9, 0, 0, 1, 2] 1 _ (by simp) (by simp) (BS.new w [9, 0, 0, 1, 2] 5)
  rw [known_get] at h
  refine h.mono fun e w' ⟨h1, h2⟩ => ⟨h1, ?_⟩
  exact ((Below.refl _ _).alloc (Nat.le_refl _) _).trans (h2.mono (by simp))
theorem known_2 (w : World) (fr : Nat × Nat) : Calls Try.prog 13 #[.slice (some ⟨w.heap.size, 0, none⟩) 9 9] (w.alloc (.cells #[.int .u8 49, .int .u8 50, .int .u8 51, .int .u8 52, .int .u8 53, .int .u8 54, .int .u8 55, .int .u8 56, .int .u8 57] 5 fr)) fun e w' =>
    e = .returned (.int .u32 3421780262) ∧ Below w.heap.size w w' := by
  have h := sum_any (some ⟨w.heap.size, 0, none⟩) 9 [49, 50, 51, 52, 53, 54, 55, 56, 57] _ (by simp) (BS.marked w [49, 50, 51, 52, 53, 54, 55, 56, 57] 5 fr)
  rw [known_crc] at h
  refine h.mono fun e w' ⟨h1, h2⟩ => ⟨h1, ?_⟩
  exact ((Below.refl _ _).alloc (Nat.le_refl _) _).trans (h2.mono (by simp))
set_option maxHeartbeats 400000 in
theorem known_any (w : World) : Calls Try.prog 9 #[] w fun e w' => e = .returned (.bool true) ∧ Below w.heap.size w w' := by
  have hcv := fun wx : World => Lib.run_convert_bytes_const (P := Try.prog) wx 22 5 #[.int .u8 49, .int .u8 50, .int .u8 51, .int .u8 52, .int .u8 53, .int .u8 54, .int .u8 55, .int .u8 56, .int .u8 57] 9 9 Try.underlying22 Try.underlying5
  go_enter Try.func9, Try.ntmps9
  go_wp2_with (first
    | (go_at_call 12; refine (known_1 _).mono ?_; rintro e w1 ⟨rfl, hb1⟩)
    | (go_at_call 13; refine (known_2 _ _).mono ?_; rintro e w2 ⟨rfl, hb2⟩))
  go_ret
  exact ⟨rfl, hb1.trans (hb2.mono hb1.size)⟩
end Go.Proofs.Ytdpgjgoahglgmab
