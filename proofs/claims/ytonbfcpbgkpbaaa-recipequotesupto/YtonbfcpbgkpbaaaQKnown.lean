/- The law's known: its contract. -/
import Derived.Test.YtonbfcpbgkpbaaaQReads
import Derived.Test.YtonbfcpbgkpbaaaQQuote
namespace Go.Proofs.Ytonbfcpbgkpbaaa
open Go.RowKit Go.Sort Go.Joins
set_option linter.unusedVariables false
set_option linter.unusedSimpArgs false
set_option maxRecDepth 100000
def kSrc : ByteArray := ⟨#[109, 101, 114, 103, 101, 32, 34, 97, 34, 43, 34, 98, 34, 61, 50, 53, 54, 32, 115, 112, 97, 99, 101, 115, 123, 85, 43, 48, 48, 50, 48, 125]⟩
theorem parse_known : parseA (tl kSrc) = .ok ⟨[[97, 98]], [⟨97, 98, 256⟩], [], [], [⟨32, 32⟩]⟩ := by kernel_rfl
theorem quote_known : textOf (quoteF (tl ⟨#[97, 34, 10]⟩)) = ⟨#[34, 97, 92, 34, 92, 48, 97, 34]⟩ := by kernel_rfl
set_option maxHeartbeats 2000000 in
theorem known_any (w : World) : Calls Try.prog 8 #[] w fun e w' => e = .returned (.bool true) ∧ Below w.heap.size w w' := by
  have b1 := box_below w (.cells #[.string ⟨#[97, 98]⟩] 9)
  have k1 : WSP (w.alloc (.cells #[.string ⟨#[97, 98]⟩] 9)) (some ⟨w.heap.size, 0, none⟩) [⟨#[97, 98]⟩] := WSP.new w [⟨#[97, 98]⟩] 9
  obtain ⟨w1, hw1⟩ : ∃ w1, w1 = w.alloc (.cells #[.string ⟨#[97, 98]⟩] 9) := ⟨_, rfl⟩
  rw [← hw1] at b1 k1
  have hs1 : w1.heap.size = w.heap.size + 1 := by rw [hw1]; simp
  have b2 := box_below w1 (.cells #[.int .i64 97, .int .i64 98, .int .i64 256] 59)
  have k2 : MSP (w1.alloc (.cells #[.int .i64 97, .int .i64 98, .int .i64 256] 59)) (some ⟨w1.heap.size, 0, none⟩) [⟨97, 98, 256⟩] := MSP.new w1 [⟨97, 98, 256⟩] 59
  obtain ⟨w2, hw2⟩ : ∃ w2, w2 = w1.alloc (.cells #[.int .i64 97, .int .i64 98, .int .i64 256] 59) := ⟨_, rfl⟩
  rw [← hw2] at b2 k2
  have hs2 : w2.heap.size = w.heap.size + 2 := by rw [hw2]; simp; omega
  have b3 := box_below w2 (.cells #[.int .i32 32, .int .i32 32] 61)
  have k3 : SPS (w2.alloc (.cells #[.int .i32 32, .int .i32 32] 61)) (some ⟨w2.heap.size, 0, none⟩) [⟨32, 32⟩] := SPS.new w2 [⟨32, 32⟩] 61
  obtain ⟨w3, hw3⟩ : ∃ w3, w3 = w2.alloc (.cells #[.int .i32 32, .int .i32 32] 61) := ⟨_, rfl⟩
  rw [← hw3] at b3 k3
  have HR := reads_ok kSrc ⟨[[97, 98]], [⟨97, 98, 256⟩], [], [], [⟨32, 32⟩]⟩ (some ⟨w.heap.size, 0, none⟩) (some ⟨w1.heap.size, 0, none⟩) none none (some ⟨w2.heap.size, 0, none⟩) 1 1 0 0 1 w3 (by decide) parse_known ⟨by decide, by decide, by decide, by decide, by decide⟩ ((k1.below b2).below b3) (k2.below b3) (.inl rfl) (.inl rfl) k3
  have hb := (b1.trans (b2.mono b1.size)).trans (b3.mono (Nat.le_trans b1.size b2.size))
  have HQ := fun wx => quote_any ⟨#[97, 34, 10]⟩ wx (by decide)
  rw [quote_known] at HQ
  have HW1 := Lib.hid hw1
  have HW2 := Lib.hid hw2
  have HW3 := Lib.hid hw3
  have HB := Lib.hid hb
  have HS1 := Lib.hid hs1
  have HS2 := Lib.hid hs2
  unfold kSrc at HR
  rw [hs1, hs2] at HR
  clear hw1 hw2 hw3 hb hs1 hs2 b1 b2 b3 k1 k2 k3
  go_enter Try.func8, Try.ntmps8
  go_wp2_with fail
  rw [← HW1.out, ← HW2.out, ← HW3.out]
  refine HR.mono ?_
  rintro e w4 ⟨rfl, hb4⟩
  go_wp2_with fail
  refine (HQ _).mono ?_
  rintro e w5 ⟨rfl, hb5⟩
  go_wp2_with fail
  go_ret
  exact ⟨rfl, (HB.out.trans (hb4.mono HB.out.size)).trans (hb5.mono (Nat.le_trans HB.out.size hb4.size))⟩
end Go.Proofs.Ytonbfcpbgkpbaaa
