/- octet.Get: its contract. -/
import Derived.Test.YtdpgjgoahglgmabRows
import Derived.Test.YtdpgjgoahglgmabView
import Derived.WalkSpells
import Derived.WalkLawsBesides
import Derived.Deep.QuietTactic
import Derived.BigQuiet
namespace Go.Proofs.Ytdpgjgoahglgmab
open Go.RowKit
/-- The number that four bytes from i on are. -/
def num4 (l : List UInt8) (i : Nat) : Nat := (((l.getD i 0).toNat * 256 + (l.getD (i + 1) 0).toNat) * 256 + (l.getD (i + 2) 0).toNat) * 256 + (l.getD (i + 3) 0).toNat
theorem num4_lt (l : List UInt8) (i : Nat) : num4 l i < 4294967296 := by
  have h0 := (l.getD i 0).toNat_lt
  have h1 := (l.getD (i + 1) 0).toNat_lt
  have h2 := (l.getD (i + 2) 0).toNat_lt
  have h3 := (l.getD (i + 3) 0).toNat_lt
  unfold num4; omega
theorem or4 (x0 x1 x2 x3 : Nat) (b0 : x0 < 256) (b1 : x1 < 256) (b2 : x2 < 256) (b3 : x3 < 256) :
    bits BinOp.or IntKind.u32 (bits BinOp.or IntKind.u32 (bits BinOp.or IntKind.u32 ((x0 : Int) * 16777216) ((x1 : Int) * 65536)) ((x2 : Int) * 256)) (x3 : Int) = ((((x0 * 256 + x1) * 256 + x2) * 256 + x3 : Nat) : Int) := by
  have e0 : (x0 : Int) * 16777216 = ((x0 * 16777216 : Nat) : Int) := by omega
  have e1 : (x1 : Int) * 65536 = ((x1 * 65536 : Nat) : Int) := by omega
  have e2 : (x2 : Int) * 256 = ((x2 * 256 : Nat) : Int) := by omega
  rw [e0, e1, e2, u32_or_nat _ _ (by omega) (by omega), nat_join 24 _ _ (by omega) (by omega), u32_or_nat _ _ (by omega) (by omega), nat_join 16 _ _ (by omega) (by omega), u32_or_nat _ _ (by omega) (by omega), nat_join 8 _ _ (by omega) (by omega)]
  omega
set_option maxHeartbeats 400000 in
theorem get_arg (a : Option Addr) (len cap : Nat) (i : Int) (w : World) (h : i < 0 ∨ (len : Int) < i) :
    Calls Try.prog 12 #[.slice a len cap, .int .i64 i] w fun e w' => e = .returned (.tuple #[.int .u32 0, .int .i64 0, .int .i64 1]) ∧ Below w.heap.size w w' := by
  rcases h with h | h
  · go_enter Try.func12, Try.ntmps12
    go_wp2
    go_ret3
    exact ⟨rfl, Below.refl _ _⟩
  · have h' : ¬ i < 0 := by omega
    go_enter Try.func12, Try.ntmps12
    go_wp2
    go_ret3
    exact ⟨rfl, Below.refl _ _⟩
set_option maxHeartbeats 400000 in
theorem get_short (a : Option Addr) (len cap : Nat) (i : Int) (w : World) (_hlen : len ≤ 9223372036854775807) (h0 : 0 ≤ i) (h1 : i ≤ len) (h2 : (len : Int) - i < 4) :
    Calls Try.prog 12 #[.slice a len cap, .int .i64 i] w fun e w' => e = .returned (.tuple #[.int .u32 0, .int .i64 0, .int .i64 10]) ∧ Below w.heap.size w w' := by
  go_enter Try.func12, Try.ntmps12
  go_wp2
  go_ret3
  exact ⟨rfl, Below.refl _ _⟩
set_option maxHeartbeats 400000 in
theorem get_some (b off cap : Nat) (l : List UInt8) (i : Nat) (w : World) (hlen : l.length ≤ 9223372036854775807) (h : i + 4 ≤ l.length) (hcap : l.length ≤ cap)
    (hc : ∀ j, j < l.length → w.cell? ⟨b, off + j, none⟩ = some (.int .u8 ((l.getD j 0).toNat : Int))) :
    Calls Try.prog 12 #[.slice (some ⟨b, off, none⟩) l.length cap, .int .i64 i] w fun e w' => e = .returned (.tuple #[.int .u32 (num4 l i : Nat), .int .i64 (i + 4), .int .i64 0]) ∧ Below w.heap.size w w' := by
  have c0 := hc i (by omega)
  have c1 := hc (i + 1) (by omega)
  have c2 := hc (i + 2) (by omega)
  have c3 := hc (i + 3) (by omega)
  obtain ⟨x0, hx0⟩ : ∃ x : Nat, x = (l.getD i 0).toNat := ⟨_, rfl⟩
  obtain ⟨x1, hx1⟩ : ∃ x : Nat, x = (l.getD (i + 1) 0).toNat := ⟨_, rfl⟩
  obtain ⟨x2, hx2⟩ : ∃ x : Nat, x = (l.getD (i + 2) 0).toNat := ⟨_, rfl⟩
  obtain ⟨x3, hx3⟩ : ∃ x : Nat, x = (l.getD (i + 3) 0).toNat := ⟨_, rfl⟩
  rw [← hx0] at c0
  rw [← hx1] at c1
  rw [← hx2] at c2
  rw [← hx3] at c3
  have b0 : x0 < 256 := by rw [hx0]; exact UInt8.toNat_lt _
  have b1 : x1 < 256 := by rw [hx1]; exact UInt8.toNat_lt _
  have b2 : x2 < 256 := by rw [hx2]; exact UInt8.toNat_lt _
  have b3 : x3 < 256 := by rw [hx3]; exact UInt8.toNat_lt _
  have HX : Hid (num4 l i = ((x0 * 256 + x1) * 256 + x2) * 256 + x3) := by unfold num4; rw [hx0, hx1, hx2, hx3]; exact rfl
  clear hx0 hx1 hx2 hx3 hc
  rw [← Nat.add_assoc] at c1 c2 c3
  have hin : (0 : Int) ≤ i := by omega
  go_enter Try.func12, Try.ntmps12
  go_wp2
  go_quiet (fail)
  go_wp2
  go_ret3
  refine ⟨?_, below_drewN (Below.refl _ _) nq⟩
  rw [or4 x0 x1 x2 x3 b0 b1 b2 b3, HX.out]
  rfl
/-- What Get answers. -/
def getR (l : List UInt8) (i : Int) : Nat × Int × Int :=
  if i < 0 ∨ (l.length : Int) < i then (0, 0, 1) else if (l.length : Int) - i < 4 then (0, 0, 10) else (num4 l i.toNat, i + 4, 0)
/-- THE CONTRACT. -/
theorem get_any (a : Option Addr) (cap : Nat) (l : List UInt8) (i : Int) (w : World) (hlen : l.length ≤ 9223372036854775807) (hcap : l.length ≤ cap) (h : BS w a l) :
    Calls Try.prog 12 #[.slice a l.length cap, .int .i64 i] w fun e w' => e = .returned (.tuple #[.int .u32 ((getR l i).1 : Nat), .int .i64 (getR l i).2.1, .int .i64 (getR l i).2.2]) ∧ Below w.heap.size w w' := by
  unfold getR
  by_cases h1 : i < 0 ∨ (l.length : Int) < i
  · simp only [if_pos h1]
    exact get_arg a l.length cap i w h1
  · simp only [if_neg h1]
    by_cases h2 : (l.length : Int) - i < 4
    · simp only [if_pos h2]
      exact get_short a l.length cap i w hlen (by omega) (by omega) h2
    · simp only [if_neg h2]
      rcases h with rfl | ⟨b, off, rfl, hc⟩
      · simp at h1 h2; omega
      · obtain ⟨k, rfl⟩ : ∃ k : Nat, i = k := ⟨i.toNat, by omega⟩
        exact get_some b off cap l k w hlen (by omega) hcap hc
end Go.Proofs.Ytdpgjgoahglgmab
