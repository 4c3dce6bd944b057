/- octet.GetText: its contract. -/
import Derived.Test.YtdpgjgoahglgmaaGet
namespace Go.Proofs.Ytdpgjgoahglgmaa
open Go.RowKit
theorem getR_lt (l : List UInt8) (i : Int) : (getR l i).1 < 4294967296 := by
  unfold getR
  split
  · simp
  · split
    · simp
    · exact num4_lt _ _
theorem getR_ok (l : List UInt8) (i : Int) (h : (getR l i).2.2 = 0) : ∃ k : Nat, i = k ∧ k + 4 ≤ l.length ∧ getR l i = (num4 l k, (k : Int) + 4, 0) := by
  unfold getR at h ⊢
  by_cases h1 : i < 0 ∨ (l.length : Int) < i
  · rw [if_pos h1] at h; simp at h
  · rw [if_neg h1] at h ⊢
    by_cases h2 : (l.length : Int) - i < 4
    · rw [if_pos h2] at h; simp at h
    · rw [if_neg h2]
      exact ⟨i.toNat, by omega, by omega, by simp; omega⟩
theorem getR_bad (l : List UInt8) (i : Int) (h : (getR l i).2.2 ≠ 0) : getR l i = (0, 0, (getR l i).2.2) := by
  unfold getR at h ⊢
  split
  · rfl
  · split
    · rfl
    · rename_i h1 h2; rw [if_neg h1, if_neg h2] at h; simp at h
/-- A text of these bytes. -/
def textOf (l : List UInt8) : ByteArray := ⟨l.toArray⟩
/-- What GetText answers. -/
def getTextR (l : List UInt8) (i most : Int) : List UInt8 × Int × Int :=
  if (getR l i).2.2 ≠ 0 then ([], 0, (getR l i).2.2) else
  if most < (getR l i).1 then ([], 0, 3) else
  if (l.length : Int) - (getR l i).2.1 < (getR l i).1 then ([], 0, 10) else
  ((l.drop (getR l i).2.1.toNat).take (getR l i).1, (getR l i).2.1 + (getR l i).1, 0)
theorem text_bytes {P : Program} (src e dst : TypeId) (hs : P.underlying src = some (.slice e)) (he : P.underlying e = some (.int .u8)) (hd : P.underlying dst = some .string)
    (b off cap : Nat) (l : List UInt8) (w : World) (hc : ∀ j, j < l.length → w.cell? ⟨b, off + j, none⟩ = some (.int .u8 ((l.getD j 0).toNat : Int))) :
    (convert src dst (.slice (some ⟨b, off, none⟩) l.length cap)).run P w = .ok (.string (textOf l)) w := by
  have h := run_convert_bytes_arg (P := P) w src e hs he b off l.length cap (l.map fun c => (c.toNat : Int)) (by simp) (fun j hj => by
    rw [hc j hj]; simp [List.getD, List.getElem?_eq_getElem hj]) dst hd
  rw [h]
  congr 2
  simp [strOfNums, textOf, List.map_map]
  apply List.ext_getElem
  · simp
  · intro j h1 h2; simp
theorem text_zero {P : Program} (src e dst : TypeId) (hs : P.underlying src = some (.slice e)) (he : P.underlying e = some (.int .u8)) (hd : P.underlying dst = some .string)
    (a : Option Addr) (cap : Nat) (w : World) : (convert src dst (.slice a 0 cap)).run P w = .ok (.string (textOf [])) w := by
  cases a with
  | none => exact run_convert_bytes_nil (P := P) w src e hs he 0 cap dst hd
  | some x =>
    have hl : (loadCells x 0).run P w = .ok #[] w := by rfl
    rw [run_convert_bytes_string w src dst e _ 0 cap hs he hd, run_bytesToString w x 0 cap [] (by simpa using hl)]
    rfl
set_option maxHeartbeats 400000 in
theorem gettext_some (b off cap : Nat) (l : List UInt8) (k : Nat) (most : Int) (w : World) (hlen : l.length ≤ 9223372036854775807) (hcap : l.length ≤ cap) (h4 : k + 4 ≤ l.length)
    (hm1 : -9223372036854775808 ≤ most) (hm2 : most ≤ 9223372036854775807)
    (hc : ∀ j, j < l.length → w.cell? ⟨b, off + j, none⟩ = some (.int .u8 ((l.getD j 0).toNat : Int))) (hg : getR l k = (num4 l k, (k : Int) + 4, 0)) :
    Calls Try.prog 9 #[.slice (some ⟨b, off, none⟩) l.length cap, .int .i64 k, .int .i64 most] w fun e w' =>
      e = .returned (.tuple #[.string (textOf (getTextR l k most).1), .int .i64 (getTextR l k most).2.1, .int .i64 (getTextR l k most).2.2]) ∧ Below w.heap.size w w' := by
  have hget := get_some b off cap l k w hlen h4 hcap hc
  have hn := num4_lt l k
  unfold getTextR
  simp only [hg]
  obtain ⟨n, hnd⟩ : ∃ n, n = num4 l k := ⟨_, rfl⟩
  rw [← hnd] at hget hn ⊢
  clear hnd hg
  by_cases h1 : most < 0
  · have hmn : most < n := by omega
    simp only [ne_eq, not_true_eq_false, if_false, if_pos hmn]
    go_enter Try.func9, Try.ntmps9
    go_wp2_with (go_at_call 10; refine (hget).mono ?_; rintro e w1 ⟨rfl, hb1⟩)
    go_ret3
    exact ⟨rfl, hb1⟩
  · obtain ⟨m, rfl⟩ : ∃ m : Nat, most = m := ⟨most.toNat, by omega⟩
    clear hm1
    by_cases h2 : m < n
    · have hmn : (m : Int) < n := by omega
      simp only [ne_eq, not_true_eq_false, if_false, if_pos hmn]
      go_enter Try.func9, Try.ntmps9
      go_wp2_with (go_at_call 10; refine (hget).mono ?_; rintro e w1 ⟨rfl, hb1⟩)
      go_ret3
      exact ⟨rfl, hb1⟩
    · have hmn : ¬ (m : Int) < n := by omega
      simp only [ne_eq, not_true_eq_false, if_false, if_neg hmn]
      by_cases h3 : l.length - (k + 4) < n
      · have h3' : (l.length : Int) - ((k : Int) + 4) < n := by omega
        simp only [if_pos h3']
        go_enter Try.func9, Try.ntmps9
        go_wp2_with (go_at_call 10; refine (hget).mono ?_; rintro e w1 ⟨rfl, hb1⟩)
        go_ret3
        exact ⟨rfl, hb1⟩
      · have h3' : ¬ (l.length : Int) - ((k : Int) + 4) < n := by omega
        simp only [if_neg h3']
        have et : ((l.drop ((k : Int) + 4).toNat).take n).length = n := by simp; omega
        by_cases hn0 : n = 0
        · subst hn0
          have hcv := fun (a : Option Addr) (c : Nat) (wx : World) => text_zero (P := Try.prog) 25 5 9 Try.underlying25 Try.underlying5 Try.underlying9 a c wx
          clear hn h2 hmn h3 h3' et
          go_enter Try.func9, Try.ntmps9
          go_wp2_with (go_at_call 10; refine (hget).mono ?_; rintro e w1 ⟨rfl, hb1⟩)
          all_goals go_ret3
          all_goals exact ⟨by simp, hb1⟩
        · have hcv := fun (wx : World) (hbx : Below w.heap.size w wx) => text_bytes (P := Try.prog) 25 5 9 Try.underlying25 Try.underlying5 Try.underlying9 b (off + (k + 4)) (cap - (k + 4)) ((l.drop ((k : Int) + 4).toNat).take n) wx (fun j hj => by
            rw [et] at hj
            have hj' : k + 4 + j < l.length := by omega
            have h1 := hc (k + 4 + j) hj'
            rw [show off + (k + 4) + j = off + (k + 4 + j) from by omega, hbx.cell (World.block_lt_of_cell? w _ h1), h1]
            have e4 : ((k : Int) + 4).toNat = k + 4 := by omega
            simp [List.getD, e4, hj])
          rw [et] at hcv
          have HC : Hid (∀ wx, Below w.heap.size w wx → (convert 25 9 (.slice (some ⟨b, off + (k + 4), none⟩) n (cap - (k + 4)))).run Try.prog wx = .ok (.string (textOf ((l.drop ((k : Int) + 4).toNat).take n))) wx) := hcv
          clear hcv et
          go_enter Try.func9, Try.ntmps9
          go_wp2_with (go_at_call 10; refine (hget).mono ?_; rintro e w1 ⟨rfl, hb1⟩; have hcv := HC.out _ hb1)
          go_ret3
          exact ⟨rfl, hb1⟩
theorem gettext_get (a : Option Addr) (cap : Nat) (l : List UInt8) (i most : Int) (w : World) (hlen : l.length ≤ 9223372036854775807) (hcap : l.length ≤ cap) (h : BS w a l) (hbad : (getR l i).2.2 ≠ 0) :
    Calls Try.prog 9 #[.slice a l.length cap, .int .i64 i, .int .i64 most] w fun e w' =>
      e = .returned (.tuple #[.string (textOf (getTextR l i most).1), .int .i64 (getTextR l i most).2.1, .int .i64 (getTextR l i most).2.2]) ∧ Below w.heap.size w w' := by
  have hget := get_any a cap l i w hlen hcap h
  have hb := getR_bad l i hbad
  unfold getTextR
  simp only [if_pos hbad]
  obtain ⟨e, he⟩ : ∃ e, e = (getR l i).2.2 := ⟨_, rfl⟩
  rw [hb, ← he] at hget
  rw [← he] at hbad ⊢
  have hbe : (e == 0) = false := by simpa using hbad
  clear he hb hbad
  go_enter Try.func9, Try.ntmps9
  go_wp2_with (go_at_call 10; refine (hget).mono ?_; rintro e w1 ⟨rfl, hb1⟩)
  go_ret3
  exact ⟨rfl, hb1⟩
/-- THE CONTRACT. -/
theorem gettext_any (a : Option Addr) (cap : Nat) (l : List UInt8) (i most : Int) (w : World) (hlen : l.length ≤ 9223372036854775807) (hcap : l.length ≤ cap) (h : BS w a l)
    (hm1 : -9223372036854775808 ≤ most) (hm2 : most ≤ 9223372036854775807) :
    Calls Try.prog 9 #[.slice a l.length cap, .int .i64 i, .int .i64 most] w fun e w' =>
      e = .returned (.tuple #[.string (textOf (getTextR l i most).1), .int .i64 (getTextR l i most).2.1, .int .i64 (getTextR l i most).2.2]) ∧ Below w.heap.size w w' := by
  by_cases hg : (getR l i).2.2 = 0
  · obtain ⟨k, rfl, h4, hg'⟩ := getR_ok l i hg
    rcases h with rfl | ⟨b, off, rfl, hc⟩
    · simp at h4
    · exact gettext_some b off cap l k most w hlen hcap h4 hm1 hm2 hc hg'
  · exact gettext_get a cap l i most w hlen hcap h hg
end Go.Proofs.Ytdpgjgoahglgmaa
