/- OctetBursts: the walk. -/
import Derived.Test.YtdpgjgoahglgmaaKnown
import Derived.Test.YtdpgjgoahglgmaaBurstAid
import Derived.Test.YtdpgjgoahglgmaaWithin
namespace Go.Proofs.Ytdpgjgoahglgmaa
open Go.RowKit
set_option maxHeartbeats 800000 in
theorem bursts_short (a : Option Addr) (n cap : Nat) (i : Int) (b : Nat) (w : World) (hn : n ≤ 9223372036854775807) (h : n = 0 ∨ b = 0) :
    Calls Try.prog 8 #[.slice a n cap, .int .i64 i, .int .u32 b] w fun e w' => e = .returned (.bool true) ∧ Below w.heap.size w w' := by
  by_cases h0 : n = 0
  · have hb : ((n : Int) == 0) = true := by subst h0; rfl
    go_enter Try.func8, Try.ntmps8
    go_wp2_with (go_at_call 12; refine (known_any _).mono ?_; rintro e w1 ⟨rfl, hb1⟩)
    go_ret
    exact ⟨rfl, hb1⟩
  · have hb : ((n : Int) == 0) = false := by simp; omega
    have hb2 : ((b : Int) == 0) = true := by
      have : b = 0 := by omega
      subst this; rfl
    go_enter Try.func8, Try.ntmps8
    go_wp2_with (go_at_call 12; refine (known_any _).mono ?_; rintro e w1 ⟨rfl, hb1⟩)
    go_ret
    exact ⟨rfl, hb1⟩
set_option maxHeartbeats 4000000 in
/-- A text of 1 to 3000 bytes. -/
theorem bursts_small (a : Option Addr) (cap : Nat) (l : List UInt8) (i : Int) (b : Nat) (w : World) (h1 : 0 < l.length) (h2 : l.length ≤ 3000) (_hcap : l.length ≤ cap) (h : BS w a l) (hb0 : b ≠ 0) (hb : b < 4294967296)
    (hnil : a = none → cap = 0) :
    Calls Try.prog 8 #[.slice a l.length cap, .int .i64 i, .int .u32 b] w fun e w' => e = .returned (.bool true) ∧ Below w.heap.size w w' := by
  have hz1 : ((l.length : Int) == 0) = false := beq_eq_false_iff_ne.2 (by omega)
  have hz2 : ((b : Int) == 0) = false := beq_eq_false_iff_ne.2 (by omega)
  have HW := fun wx : World => within_zero i (8 * l.length - 1) wx (by omega)
  rw [show ((8 * l.length - 1 : Nat) : Int) = 8 * (l.length : Int) - 1 from by omega] at HW
  go_enter Try.func8, Try.ntmps8
  go_wp2_with fail
  refine (HW _).mono ?_; rintro e w1 ⟨⟨m, rfl, hm⟩, hb1⟩
  have h1b := h.below hb1
  have hbA := (Below.refl w1.heap.size w1).alloc (Nat.le_refl _) (.cells #[] 5)
  obtain ⟨v2, w2, hr2, ho2, hb2⟩ := run_own_bytes (w1.alloc (.cells #[] 5)) w1.heap.size (.slice (some ⟨w1.heap.size, 0, none⟩) 0 0) [] l a cap (World.ownsRow_lit w1 #[] 0 (Nat.le_refl _) (by simp [maxLen]) rfl) (h1b.below hbA) hnil (by simp) (by simp; omega)
  rw [List.nil_append] at ho2
  have hb2' : Below w.heap.size w w2 := (hb1.trans (hbA.mono hb1.size)).trans (hb2.mono hb1.size)
  have h2b : BS w2 a l := h.below hb2'
  obtain ⟨g, c2, rfl, hg1, hg2, hc2, hc3, -⟩ := ho2.form h1
  have hgw : w.heap.size ≤ g := Nat.le_trans hb1.size hg1
  clear hbA hb2 h1b hb1 h2b
  go_wp2_with (at_builtin; refine wpList_append_run rfl (.tmp 29) (.tmp 30) 25 25 rfl _ _ rfl rfl _ w2 hr2 ?_; clear hr2)
  obtain ⟨n, hn⟩ : ∃ n, n = l.length := ⟨_, rfl⟩
  have HN : Hid (n = l.length) := hn
  have HO : Hid (OwnS w2 w1.heap.size (.slice (some ⟨g, 0, none⟩) n c2) l) := by rw [hn]; exact ho2
  rw [← hn] at h1 h2 hm hc2 ⊢
  have HH : Hid (BS w a l) := h
  have HS1 := fun (wx : World) (hx : BS wx a l) => sum_any a cap l wx (by omega) hx
  rw [← hn] at HS1
  clear hn h ho2 hz1 hz2 HW hnil
  go_loopw [8, 9] (fun t i wr => ∃ (k : Nat) (C : List UInt8), k ≤ 32 ∧ m + k ≤ 8 * n ∧ i = .int .i64 k ∧ t = .bool (decide (b % 2 ^ k ≠ 0)) ∧ C.length = n ∧ numB C = numB l ^^^ (b % 2 ^ k * 2 ^ m) ∧ OwnS wr w1.heap.size (.slice (some ⟨g, 0, none⟩) n c2) C ∧ Below w.heap.size w wr)
    (fun _ i _ => 32 - (intOf i).toNat)
  case atStart => exact ⟨0, l, by omega, by omega, rfl, by simp [Nat.mod_one], HN.out.symm, by simp [Nat.mod_one], HO.out, hb2'⟩
  case round =>
    obtain ⟨k, C, hk, hmk, rfl, rfl, hCl, hCn, hown, hbr⟩ := hrel
    have HC : Hid (OwnS wr w1.heap.size (.slice (some ⟨g, 0, none⟩) n c2) C ∧ C.length = n ∧ numB C = numB l ^^^ (b % 2 ^ k * 2 ^ m)) := ⟨hown, hCl, hCn⟩
    by_cases hlt : k < 32 ∧ m + k < 8 * n
    · obtain ⟨hk32, hmn⟩ := hlt
      obtain ⟨x, hx⟩ : ∃ x, x = (C.getD ((m + k) / 8) 0).toNat := ⟨_, rfl⟩
      have hcell : wr.cell? ⟨g, (m + k) / 8, none⟩ = some (.int .u8 (x : Int)) := by
        have hO : wr.ownsRow w1.heap.size 5 1 (.slice (some ⟨g, 0, none⟩) n c2) n (cellsOf C) := by have := hown; unfold OwnS at this; rw [hCl] at this; exact this
        rw [World.ownsRow.cellAt hO _ (by omega), hx]
        exact cellsOf_get C _ (by omega)
      have hfree : wr.frozen? ⟨g, (m + k) / 8, none⟩ = false := by
        have hO : wr.ownsRow w1.heap.size 5 1 (.slice (some ⟨g, 0, none⟩) n c2) n (cellsOf C) := by have := hown; unfold OwnS at this; rw [hCl] at this; exact this
        exact World.ownsRow.frozenAt hO _
      have HX : Hid (x = (C.getD ((m + k) / 8) 0).toNat) := hx
      have hx8 : x < 256 := by rw [hx]; exact UInt8.toNat_lt _
      clear hx hown hCl hCn
      by_cases hbit : b / 2 ^ k % 2 = 1
      · have hbt := bit_yes b k hb hbit
        go_wp2
        refine ⟨⟨k + 1, C.set ((m + k) / 8) (UInt8.ofNat ((C.getD ((m + k) / 8) 0).toNat ^^^ 2 ^ ((m + k) % 8))), by omega, by omega, by go_num, by rw [decide_eq_true (burst_some b k hbit)], by rw [List.length_set]; exact HC.out.2.1, ?_, ?_, hbr.setCell hgw _⟩, by simp [intOf]; omega⟩
        · rw [numB_flip C _ _ (by rw [HC.out.2.1]; omega) (by omega), HC.out.2.2, show 8 * ((m + k) / 8) + (m + k) % 8 = m + k from by omega]
          exact burst_step _ _ _ _ hbit
        · exact own_flip _ _ HC.out.1 HC.out.2.1 (by omega) (by omega) x HX.out
      · have hbt := bit_no b k hb hbit
        go_wp2
        refine ⟨⟨k + 1, C, by omega, by omega, by go_num, ?_, HC.out.2.1, ?_, HC.out.1, hbr⟩, by simp [intOf]; omega⟩
        · rw [burst_skip b k hbit]; simp
        · rw [burst_skip b k hbit]; exact HC.out.2.2
    · clear hown hCl hCn
      have hS1 := HS1 wr (HH.out.below (hbr.mono (Nat.le_refl _)))
      have hsum := crc_burst l C m (b % 2 ^ k) (HC.out.2.1.trans HN.out) (Nat.lt_of_le_of_lt (Nat.mod_le _ _) hb) (by rw [← HN.out]; omega) HC.out.2.2
      have hgl : 0 < C.length := by rw [HC.out.2.1]; exact h1
      obtain ⟨g', c', he, -, -, -, -, hBS⟩ := HC.out.1.form hgl
      simp only [Value.slice.injEq, Option.some.injEq, Addr.mk.injEq, and_true] at he
      obtain ⟨rfl, -, rfl⟩ := he
      have hCl := HC.out.2.1
      have HS : Hid (crc l = crc C ↔ b % 2 ^ k = 0) := hsum
      have HCl : Hid (C.length = n) := hCl
      have HBS : Hid (BS wr (some ⟨g, 0, none⟩) C) := hBS
      clear hsum hCl hBS hgl
      obtain ⟨s1, hs1⟩ : ∃ s, s = crc l := ⟨_, rfl⟩
      obtain ⟨s2, hs2⟩ : ∃ s, s = crc C := ⟨_, rfl⟩
      rw [← hs1] at hS1
      have hS2 := fun wx (hb : Below wr.heap.size wr wx) => sum_any (some ⟨g, 0, none⟩) c2 C wx (by rw [HCl.out]; omega) (HBS.out.below hb)
      rw [HCl.out, ← hs2] at hS2
      have hends : (s1 = s2 ↔ b % 2 ^ k = 0) := by rw [hs1, hs2]; exact HS.out
      clear hs1 hs2
      have hex : ¬ k < 32 ∨ (k < 32 ∧ ¬ m + k < 8 * n) := by omega
      clear hlt
      rcases hex with hex | ⟨hex, hex2⟩
      all_goals
        by_cases he0 : b % 2 ^ k = 0
        · have e12 : s1 = s2 := hends.2 he0
          subst e12
          rw [decide_eq_false (not_not_intro he0)]
          clear he0 hends
          go_wp2_with fail
          refine hS1.mono ?_; rintro e3 w3 ⟨rfl, hb3⟩
          go_wp2_with fail
          refine (hS2 w3 hb3).mono ?_; rintro e4 w4 ⟨rfl, hb4⟩
          go_wp2_with fail
          refine (known_any _).mono ?_; rintro e5 w5 ⟨rfl, hb5⟩
          go_wp2_with fail
          go_ret
          exact ⟨rfl, ((hbr.trans (hb3.mono hbr.size)).trans (hb4.mono (Nat.le_trans hbr.size hb3.size))).trans (hb5.mono (Nat.le_trans hbr.size (Nat.le_trans hb3.size hb4.size)))⟩
        · have e12 : ((s1 : Int) == (s2 : Int)) = false := beq_eq_false_iff_ne.2 (fun e => he0 (hends.1 (by omega)))
          rw [decide_eq_true he0]
          clear he0 hends
          go_wp2_with fail
          refine hS1.mono ?_; rintro e3 w3 ⟨rfl, hb3⟩
          go_wp2_with fail
          refine (hS2 w3 hb3).mono ?_; rintro e4 w4 ⟨rfl, hb4⟩
          go_wp2_with fail
          refine (known_any _).mono ?_; rintro e5 w5 ⟨rfl, hb5⟩
          go_wp2_with fail
          go_ret
          exact ⟨rfl, ((hbr.trans (hb3.mono hbr.size)).trans (hb4.mono (Nat.le_trans hbr.size hb3.size))).trans (hb5.mono (Nat.le_trans hbr.size (Nat.le_trans hb3.size hb4.size)))⟩
set_option maxRecDepth 100000 in
set_option maxHeartbeats 4000000 in
/-- A longer text: its first 3000 bytes. -/
theorem bursts_long (bb off cap : Nat) (L l : List UInt8) (hLl : l = L.take 3000) (i : Int) (b : Nat) (w : World) (hL : 3000 < L.length) (hLm : L.length ≤ 9223372036854775807) (hcap : L.length ≤ cap) (h : BS w (some ⟨bb, off, none⟩) l) (hb0 : b ≠ 0) (hb : b < 4294967296)
    :
    Calls Try.prog 8 #[.slice (some ⟨bb, off, none⟩) L.length cap, .int .i64 i, .int .u32 b] w fun e w' => e = .returned (.bool true) ∧ Below w.heap.size w w' := by
  have hl : l.length = 3000 := by rw [hLl]; simp; omega
  have HLL : Hid (l.length = 3000) := hl
  clear hLl
  have hz1 : ((L.length : Int) == 0) = false := beq_eq_false_iff_ne.2 (by omega)
  have hz2 : ((b : Int) == 0) = false := beq_eq_false_iff_ne.2 (by omega)
  have HW := fun wx : World => within_zero i 23999 wx (by omega)
  rw [show ((23999 : Nat) : Int) = 23999 from rfl] at HW
  clear hl
  go_enter Try.func8, Try.ntmps8
  go_wp2_with fail
  refine (HW _).mono ?_; rintro e w1 ⟨⟨m, rfl, hm⟩, hb1⟩
  have h1b := h.below hb1
  have hbA := (Below.refl w1.heap.size w1).alloc (Nat.le_refl _) (.cells #[] 5)
  obtain ⟨v2, w2, hr2, ho2, hb2⟩ := run_own_bytes (w1.alloc (.cells #[] 5)) w1.heap.size (.slice (some ⟨w1.heap.size, 0, none⟩) 0 0) [] l (some ⟨bb, off, none⟩) cap (World.ownsRow_lit w1 #[] 0 (Nat.le_refl _) (by simp [maxLen]) rfl) (h1b.below hbA) (fun e => by cases e) (by simp) (by have := HLL.out; simp; omega)
  rw [List.nil_append] at ho2
  have hb2' : Below w.heap.size w w2 := (hb1.trans (hbA.mono hb1.size)).trans (hb2.mono hb1.size)
  have h2b : BS w2 (some ⟨bb, off, none⟩) l := h.below hb2'
  obtain ⟨g, c2, hv2, hg1, hg2, hc2, hc3, -⟩ := ho2.form (by have := HLL.out; omega)
  rw [HLL.out] at hv2 hc2 hr2
  subst hv2
  have hgw : w.heap.size ≤ g := Nat.le_trans hb1.size hg1
  clear hbA hb2 h1b hb1 h2b
  go_wp2_with (at_builtin; refine wpList_append_run rfl (.tmp 29) (.tmp 30) 25 25 rfl _ _ rfl rfl _ w2 hr2 ?_; clear hr2)
  have HN : Hid (3000 = l.length) := HLL.out.symm
  have HO : Hid (OwnS w2 w1.heap.size (.slice (some ⟨g, 0, none⟩) 3000 c2) l) := ho2
  have HH : Hid (BS w (some ⟨bb, off, none⟩) l) := h
  have HS1 := fun (wx : World) (hx : BS wx (some ⟨bb, off, none⟩) l) => sum_any (some ⟨bb, off, none⟩) cap l wx (by have := HLL.out; omega) hx
  rw [HLL.out] at HS1
  clear h ho2 hz1 hz2 HW
  go_loopw [8, 9] (fun t i wr => ∃ (k : Nat) (C : List UInt8), k ≤ 32 ∧ m + k ≤ 24000 ∧ i = .int .i64 k ∧ t = .bool (decide (b % 2 ^ k ≠ 0)) ∧ C.length = 3000 ∧ numB C = numB l ^^^ (b % 2 ^ k * 2 ^ m) ∧ OwnS wr w1.heap.size (.slice (some ⟨g, 0, none⟩) 3000 c2) C ∧ Below w.heap.size w wr)
    (fun _ i _ => 32 - (intOf i).toNat)
  case atStart => exact ⟨0, l, by omega, by omega, rfl, by simp [Nat.mod_one], HN.out.symm, by simp [Nat.mod_one], HO.out, hb2'⟩
  case round =>
    obtain ⟨k, C, hk, hmk, rfl, rfl, hCl, hCn, hown, hbr⟩ := hrel
    have HC : Hid (OwnS wr w1.heap.size (.slice (some ⟨g, 0, none⟩) 3000 c2) C ∧ C.length = 3000 ∧ numB C = numB l ^^^ (b % 2 ^ k * 2 ^ m)) := ⟨hown, hCl, hCn⟩
    by_cases hlt : k < 32 ∧ m + k < 24000
    · obtain ⟨hk32, hmn⟩ := hlt
      obtain ⟨x, hx⟩ : ∃ x, x = (C.getD ((m + k) / 8) 0).toNat := ⟨_, rfl⟩
      have hcell : wr.cell? ⟨g, (m + k) / 8, none⟩ = some (.int .u8 (x : Int)) := by
        have hO : wr.ownsRow w1.heap.size 5 1 (.slice (some ⟨g, 0, none⟩) 3000 c2) 3000 (cellsOf C) := by have := hown; unfold OwnS at this; rw [hCl] at this; exact this
        rw [World.ownsRow.cellAt hO _ (by omega), hx]
        exact cellsOf_get C _ (by omega)
      have hfree : wr.frozen? ⟨g, (m + k) / 8, none⟩ = false := by
        have hO : wr.ownsRow w1.heap.size 5 1 (.slice (some ⟨g, 0, none⟩) 3000 c2) 3000 (cellsOf C) := by have := hown; unfold OwnS at this; rw [hCl] at this; exact this
        exact World.ownsRow.frozenAt hO _
      have HX : Hid (x = (C.getD ((m + k) / 8) 0).toNat) := hx
      have hx8 : x < 256 := by rw [hx]; exact UInt8.toNat_lt _
      clear hx hown hCl hCn
      by_cases hbit : b / 2 ^ k % 2 = 1
      · have hbt := bit_yes b k hb hbit
        go_wp2
        refine ⟨⟨k + 1, C.set ((m + k) / 8) (UInt8.ofNat ((C.getD ((m + k) / 8) 0).toNat ^^^ 2 ^ ((m + k) % 8))), by omega, by omega, by go_num, by rw [decide_eq_true (burst_some b k hbit)], by rw [List.length_set]; exact HC.out.2.1, ?_, ?_, hbr.setCell hgw _⟩, by simp [intOf]; omega⟩
        · rw [numB_flip C _ _ (by rw [HC.out.2.1]; omega) (by omega), HC.out.2.2, show 8 * ((m + k) / 8) + (m + k) % 8 = m + k from by omega]
          exact burst_step _ _ _ _ hbit
        · exact own_flip _ _ HC.out.1 HC.out.2.1 (by omega) (by omega) x HX.out
      · have hbt := bit_no b k hb hbit
        go_wp2
        refine ⟨⟨k + 1, C, by omega, by omega, by go_num, ?_, HC.out.2.1, ?_, HC.out.1, hbr⟩, by simp [intOf]; omega⟩
        · rw [burst_skip b k hbit]; simp
        · rw [burst_skip b k hbit]; exact HC.out.2.2
    · clear hown hCl hCn
      have hS1 := HS1 wr (HH.out.below (hbr.mono (Nat.le_refl _)))
      have hsum := crc_burst l C m (b % 2 ^ k) (HC.out.2.1.trans HN.out) (Nat.lt_of_le_of_lt (Nat.mod_le _ _) hb) (by rw [← HN.out]; omega) HC.out.2.2
      have hgl : 0 < C.length := by rw [HC.out.2.1]; omega
      obtain ⟨g', c', he, -, -, -, -, hBS⟩ := HC.out.1.form hgl
      simp only [Value.slice.injEq, Option.some.injEq, Addr.mk.injEq, and_true] at he
      obtain ⟨rfl, -, rfl⟩ := he
      have hCl := HC.out.2.1
      have HS : Hid (crc l = crc C ↔ b % 2 ^ k = 0) := hsum
      have HCl : Hid (C.length = 3000) := hCl
      have HBS : Hid (BS wr (some ⟨g, 0, none⟩) C) := hBS
      clear hsum hCl hBS hgl
      obtain ⟨s1, hs1⟩ : ∃ s, s = crc l := ⟨_, rfl⟩
      obtain ⟨s2, hs2⟩ : ∃ s, s = crc C := ⟨_, rfl⟩
      rw [← hs1] at hS1
      have hS2 := fun wx (hb : Below wr.heap.size wr wx) => sum_any (some ⟨g, 0, none⟩) c2 C wx (by rw [HCl.out]; omega) (HBS.out.below hb)
      rw [HCl.out, ← hs2] at hS2
      have hends : (s1 = s2 ↔ b % 2 ^ k = 0) := by rw [hs1, hs2]; exact HS.out
      clear hs1 hs2
      have hex : ¬ k < 32 ∨ (k < 32 ∧ ¬ m + k < 24000) := by omega
      clear hlt
      rcases hex with hex | ⟨hex, hex2⟩
      all_goals
        by_cases he0 : b % 2 ^ k = 0
        · have e12 : s1 = s2 := hends.2 he0
          subst e12
          rw [decide_eq_false (not_not_intro he0)]
          clear he0 hends
          go_wp2_with fail
          refine hS1.mono ?_; rintro e3 w3 ⟨rfl, hb3⟩
          go_wp2_with fail
          refine (hS2 w3 hb3).mono ?_; rintro e4 w4 ⟨rfl, hb4⟩
          go_wp2_with fail
          refine (known_any _).mono ?_; rintro e5 w5 ⟨rfl, hb5⟩
          go_wp2_with fail
          go_ret
          exact ⟨rfl, ((hbr.trans (hb3.mono hbr.size)).trans (hb4.mono (Nat.le_trans hbr.size hb3.size))).trans (hb5.mono (Nat.le_trans hbr.size (Nat.le_trans hb3.size hb4.size)))⟩
        · have e12 : ((s1 : Int) == (s2 : Int)) = false := beq_eq_false_iff_ne.2 (fun e => he0 (hends.1 (by omega)))
          rw [decide_eq_true he0]
          clear he0 hends
          go_wp2_with fail
          refine hS1.mono ?_; rintro e3 w3 ⟨rfl, hb3⟩
          go_wp2_with fail
          refine (hS2 w3 hb3).mono ?_; rintro e4 w4 ⟨rfl, hb4⟩
          go_wp2_with fail
          refine (known_any _).mono ?_; rintro e5 w5 ⟨rfl, hb5⟩
          go_wp2_with fail
          go_ret
          exact ⟨rfl, ((hbr.trans (hb3.mono hbr.size)).trans (hb4.mono (Nat.le_trans hbr.size hb3.size))).trans (hb5.mono (Nat.le_trans hbr.size (Nat.le_trans hb3.size hb4.size)))⟩
/-- THE LAW's walk, for every input. -/
theorem bursts_walk (a : Option Addr) (cap : Nat) (l : List UInt8) (i : Int) (b : Nat) (w : World) (hlen : l.length ≤ 9223372036854775807) (hcap : l.length ≤ cap) (h : BS w a l) (hb : b < 4294967296) (hnil : a = none → cap = 0) :
    Calls Try.prog 8 #[.slice a l.length cap, .int .i64 i, .int .u32 b] w fun e w' => e = .returned (.bool true) ∧ Below w.heap.size w w' := by
  by_cases h0 : l.length = 0 ∨ b = 0
  · exact bursts_short a l.length cap i b w hlen h0
  · by_cases h3 : l.length ≤ 3000
    · exact bursts_small a cap l i b w (by omega) h3 hcap h (by omega) hb hnil
    · have ht := h.take 3000
      rcases h with h | ⟨bb, off, rfl, _⟩
      · rw [h] at h3; simp at h3
      · exact bursts_long bb off cap l (l.take 3000) rfl i b w (by omega) hlen hcap ht (by omega) hb
end Go.Proofs.Ytdpgjgoahglgmaa
