/- tesseraref1.Get and GetText: their contracts, the same as octet's. -/
import Derived.Test.YtdpgjgoahglgmaaGetText
namespace Go.Proofs.Ytdpgjgoahglgmaa
open Go.RowKit
set_option maxHeartbeats 400000 in
theorem refget_arg (a : Option Addr) (len cap : Nat) (i : Int) (w : World) (h : i < 0 ∨ (len : Int) < i) :
    Calls Try.prog 20 #[.slice a len cap, .int .i64 i] w fun e w' => e = .returned (.tuple #[.int .u32 0, .int .i64 0, .int .i64 1]) ∧ Below w.heap.size w w' := by
  rcases h with h | h
  · go_enter Try.func20, Try.ntmps20
    go_wp2
    go_ret3
    exact ⟨rfl, Below.refl _ _⟩
  · have h' : ¬ i < 0 := by omega
    go_enter Try.func20, Try.ntmps20
    go_wp2
    go_ret3
    exact ⟨rfl, Below.refl _ _⟩
set_option maxHeartbeats 400000 in
theorem refget_short (a : Option Addr) (len cap : Nat) (i : Int) (w : World) (_hlen : len ≤ 9223372036854775807) (h0 : 0 ≤ i) (h1 : i ≤ len) (h2 : (len : Int) - i < 4) :
    Calls Try.prog 20 #[.slice a len cap, .int .i64 i] w fun e w' => e = .returned (.tuple #[.int .u32 0, .int .i64 0, .int .i64 10]) ∧ Below w.heap.size w w' := by
  go_enter Try.func20, Try.ntmps20
  go_wp2
  go_ret3
  exact ⟨rfl, Below.refl _ _⟩
set_option maxHeartbeats 800000 in
theorem refget_some (b off cap : Nat) (l : List UInt8) (i : Nat) (w : World) (hlen : l.length ≤ 9223372036854775807) (h : i + 4 ≤ l.length)
    (hc : ∀ j, j < l.length → w.cell? ⟨b, off + j, none⟩ = some (.int .u8 ((l.getD j 0).toNat : Int))) :
    Calls Try.prog 20 #[.slice (some ⟨b, off, none⟩) l.length cap, .int .i64 i] w fun e w' => e = .returned (.tuple #[.int .u32 (num4 l i : Nat), .int .i64 (i + 4), .int .i64 0]) ∧ Below w.heap.size w w' := by
  have c0 := hc i (by omega)
  have c1 := hc (i + 1) (by omega)
  have c2 := hc (i + 2) (by omega)
  have c3 := hc (i + 3) (by omega)
  obtain ⟨x0, hx0⟩ : ∃ x : Nat, x = (l.getD i 0).toNat := ⟨_, rfl⟩
  obtain ⟨x1, hx1⟩ : ∃ x : Nat, x = (l.getD (i + 1) 0).toNat := ⟨_, rfl⟩
  obtain ⟨x2, hx2⟩ : ∃ x : Nat, x = (l.getD (i + 2) 0).toNat := ⟨_, rfl⟩
  obtain ⟨x3, hx3⟩ : ∃ x : Nat, x = (l.getD (i + 3) 0).toNat := ⟨_, rfl⟩
  rw [← hx0] at c0
  rw [← hx1] at c1
  rw [← hx2] at c2
  rw [← hx3] at c3
  have b0 : x0 < 256 := by rw [hx0]; exact UInt8.toNat_lt _
  have b1 : x1 < 256 := by rw [hx1]; exact UInt8.toNat_lt _
  have b2 : x2 < 256 := by rw [hx2]; exact UInt8.toNat_lt _
  have b3 : x3 < 256 := by rw [hx3]; exact UInt8.toNat_lt _
  have HX : Hid (num4 l i = ((x0 * 256 + x1) * 256 + x2) * 256 + x3) := by unfold num4; rw [hx0, hx1, hx2, hx3]; exact rfl
  clear hx0 hx1 hx2 hx3 hc
  go_enter Try.func20, Try.ntmps20
  go_wp2
  refine wp_loop_rounds 5 ?_
  iterate 5
    rw [rounds_succ]
    go_wp2
  go_ret3
  refine ⟨?_, Below.refl _ _⟩
  rw [HX.out]
  have e : ((((x0 * 256 + x1) * 256 + x2) * 256 + x3 : Nat) : Int) = (((x0 : Int) * 256 + x1) * 256 + x2) * 256 + x3 := by omega
  rw [e]
  rfl
/-- THE CONTRACT of Get. -/
theorem refget_any (a : Option Addr) (cap : Nat) (l : List UInt8) (i : Int) (w : World) (hlen : l.length ≤ 9223372036854775807) (h : BS w a l) :
    Calls Try.prog 20 #[.slice a l.length cap, .int .i64 i] w fun e w' => e = .returned (.tuple #[.int .u32 ((getR l i).1 : Nat), .int .i64 (getR l i).2.1, .int .i64 (getR l i).2.2]) ∧ Below w.heap.size w w' := by
  unfold getR
  by_cases h1 : i < 0 ∨ (l.length : Int) < i
  · simp only [if_pos h1]
    exact refget_arg a l.length cap i w h1
  · simp only [if_neg h1]
    by_cases h2 : (l.length : Int) - i < 4
    · simp only [if_pos h2]
      exact refget_short a l.length cap i w hlen (by omega) (by omega) h2
    · simp only [if_neg h2]
      rcases h with rfl | ⟨b, off, rfl, hc⟩
      · simp at h1 h2; omega
      · obtain ⟨k, rfl⟩ : ∃ k : Nat, i = k := ⟨i.toNat, by omega⟩
        exact refget_some b off cap l k w hlen (by omega) hc
set_option maxHeartbeats 800000 in
theorem refgettext_some (b off cap : Nat) (l : List UInt8) (k : Nat) (most : Int) (w : World) (hlen : l.length ≤ 9223372036854775807) (hcap : l.length ≤ cap) (h4 : k + 4 ≤ l.length)
    (hc : ∀ j, j < l.length → w.cell? ⟨b, off + j, none⟩ = some (.int .u8 ((l.getD j 0).toNat : Int))) (hg : getR l k = (num4 l k, (k : Int) + 4, 0)) :
    Calls Try.prog 21 #[.slice (some ⟨b, off, none⟩) l.length cap, .int .i64 k, .int .i64 most] w fun e w' =>
      e = .returned (.tuple #[.string (textOf (getTextR l k most).1), .int .i64 (getTextR l k most).2.1, .int .i64 (getTextR l k most).2.2]) ∧ Below w.heap.size w w' := by
  have hget := refget_some b off cap l k w hlen h4 hc
  have hn := num4_lt l k
  unfold getTextR
  simp only [hg]
  obtain ⟨n, hnd⟩ : ∃ n, n = num4 l k := ⟨_, rfl⟩
  rw [← hnd] at hget hn ⊢
  clear hnd hg
  by_cases h1 : most < n
  · simp only [ne_eq, not_true_eq_false, if_false, if_pos h1]
    go_enter Try.func21, Try.ntmps21
    go_wp2_with (go_at_call 20; refine (hget).mono ?_; rintro e w1 ⟨rfl, hb1⟩)
    go_ret3
    exact ⟨rfl, hb1⟩
  · simp only [ne_eq, not_true_eq_false, if_false, if_neg h1]
    by_cases h3 : l.length - (k + 4) < n
    · have h3' : (l.length : Int) - ((k : Int) + 4) < n := by omega
      simp only [if_pos h3']
      go_enter Try.func21, Try.ntmps21
      go_wp2_with (go_at_call 20; refine (hget).mono ?_; rintro e w1 ⟨rfl, hb1⟩)
      go_ret3
      exact ⟨rfl, hb1⟩
    · have h3' : ¬ (l.length : Int) - ((k : Int) + 4) < n := by omega
      simp only [if_neg h3']
      have et : ((l.drop ((k : Int) + 4).toNat).take n).length = n := by simp; omega
      by_cases hn0 : n = 0
      · subst hn0
        have hcv := fun (a : Option Addr) (c : Nat) (wx : World) => text_zero (P := Try.prog) 25 5 9 Try.underlying25 Try.underlying5 Try.underlying9 a c wx
        clear hn h3 h3' et
        go_enter Try.func21, Try.ntmps21
        go_wp2_with (go_at_call 20; refine (hget).mono ?_; rintro e w1 ⟨rfl, hb1⟩)
        all_goals go_ret3
        all_goals exact ⟨by simp, hb1⟩
      · have hcv := fun (wx : World) (hbx : Below w.heap.size w wx) => text_bytes (P := Try.prog) 25 5 9 Try.underlying25 Try.underlying5 Try.underlying9 b (off + (k + 4)) (cap - (k + 4)) ((l.drop ((k : Int) + 4).toNat).take n) wx (fun j hj => by
          rw [et] at hj
          have hj' : k + 4 + j < l.length := by omega
          have h1 := hc (k + 4 + j) hj'
          rw [show off + (k + 4) + j = off + (k + 4 + j) from by omega, hbx.cell (World.block_lt_of_cell? w _ h1), h1]
          have e4 : ((k : Int) + 4).toNat = k + 4 := by omega
          simp [List.getD, e4, hj])
        rw [et] at hcv
        have HC : Hid (∀ wx, Below w.heap.size w wx → (convert 25 9 (.slice (some ⟨b, off + (k + 4), none⟩) n (cap - (k + 4)))).run Try.prog wx = .ok (.string (textOf ((l.drop ((k : Int) + 4).toNat).take n))) wx) := hcv
        clear hcv et
        go_enter Try.func21, Try.ntmps21
        go_wp2_with (go_at_call 20; refine (hget).mono ?_; rintro e w1 ⟨rfl, hb1⟩; have hcv := HC.out _ hb1)
        go_ret3
        exact ⟨rfl, hb1⟩
theorem refgettext_get (a : Option Addr) (cap : Nat) (l : List UInt8) (i most : Int) (w : World) (hlen : l.length ≤ 9223372036854775807) (h : BS w a l) (hbad : (getR l i).2.2 ≠ 0) :
    Calls Try.prog 21 #[.slice a l.length cap, .int .i64 i, .int .i64 most] w fun e w' =>
      e = .returned (.tuple #[.string (textOf (getTextR l i most).1), .int .i64 (getTextR l i most).2.1, .int .i64 (getTextR l i most).2.2]) ∧ Below w.heap.size w w' := by
  have hget := refget_any a cap l i w hlen h
  have hb := getR_bad l i hbad
  unfold getTextR
  simp only [if_pos hbad]
  obtain ⟨e, he⟩ : ∃ e, e = (getR l i).2.2 := ⟨_, rfl⟩
  rw [hb, ← he] at hget
  rw [← he] at hbad ⊢
  have hbe : (e == 0) = false := by simpa using hbad
  clear he hb hbad
  go_enter Try.func21, Try.ntmps21
  go_wp2_with (go_at_call 20; refine (hget).mono ?_; rintro e w1 ⟨rfl, hb1⟩)
  go_ret3
  exact ⟨rfl, hb1⟩
/-- THE CONTRACT of GetText. -/
theorem refgettext_any (a : Option Addr) (cap : Nat) (l : List UInt8) (i most : Int) (w : World) (hlen : l.length ≤ 9223372036854775807) (hcap : l.length ≤ cap) (h : BS w a l) :
    Calls Try.prog 21 #[.slice a l.length cap, .int .i64 i, .int .i64 most] w fun e w' =>
      e = .returned (.tuple #[.string (textOf (getTextR l i most).1), .int .i64 (getTextR l i most).2.1, .int .i64 (getTextR l i most).2.2]) ∧ Below w.heap.size w w' := by
  by_cases hg : (getR l i).2.2 = 0
  · obtain ⟨k, rfl, h4, hg'⟩ := getR_ok l i hg
    rcases h with rfl | ⟨b, off, rfl, hc⟩
    · simp at h4
    · exact refgettext_some b off cap l k most w hlen hcap h4 hc hg'
  · exact refgettext_get a cap l i most w hlen h hg
end Go.Proofs.Ytdpgjgoahglgmaa
