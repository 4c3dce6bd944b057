import Derived.Test.YtplmmamebfpcjaaGreatDoorJ0
import Derived.Test.YtplmmamebfpcjaaGreatDoorRows
import Derived.Test.YtplmmamebfpcjaaGreatDoorJ1
import Derived.WalkSpells
import Derived.WalkLawsBesides
import Derived.Deep.QuietTactic
import Derived.BigQuiet
import Derived.Test.YtplmmamebfpcjaaGreatDoorJ18
import Derived.Lib.Hide
import Derived.Test.YtplmmamebfpcjaaGreatDoorJ21
section
/- tesseraref1.Put, PutText: their contracts. -/
namespace Go.Proofs.YtplmmamebfpcjaaGreatDoor.Oc
set_option maxRecDepth 100000
open Go.RowKit
open Go.Joins
set_option maxHeartbeats 400000 in
theorem refput_any (a : Option Addr) (cap : Nat) (l : List UInt8) (n : Nat) (hn : n < 4294967296) (w : World) (hlen : l.length ≤ 140737488351232) (_hcap : l.length ≤ cap) (h : BS w a l) (hnil : a = none → cap = 0) :
    Calls Tryz.prog 35 #[.slice a l.length cap, .int .u32 n] w (NewBytes w (l ++ be4 n)) := by
  have hbA := (Below.refl w.heap.size w).alloc (Nat.le_refl _) (.cells #[] 5)
  obtain ⟨v1, w1, hr1, ho1, hb1⟩ := run_own_bytes (w.alloc (.cells #[] 5)) w.heap.size (.slice (some ⟨w.heap.size, 0, none⟩) 0 0) [] l a cap (World.ownsRow_lit w #[] 0 (Nat.le_refl _) (by simp [maxLen]) rfl) (h.below hbA) hnil (by simp) (by simp; omega)
  have hb1' : Below w.heap.size w w1 := hbA.trans hb1
  have hbB := (Below.refl w1.heap.size w1).alloc (Nat.le_refl _) (.cells #[.int .u8 ((n : Int) / 16777216), .int .u8 ((n : Int) / 65536 % 256), .int .u8 ((n : Int) / 256 % 256), .int .u8 ((n : Int) % 256)] 5)
  obtain ⟨v2, w2, hr2, ho2, hb2⟩ := run_own_bytes _ w.heap.size v1 ([] ++ l) (be4 n) (some ⟨w1.heap.size, 0, none⟩) 4 (ho1.below hbB (Nat.le_refl _)) (be4_bs w1 n hn) (fun e => by cases e) (by have := hb1'.size; simp; omega) (by simp [be4]; omega)
  have hb2' : Below w.heap.size w w2 := (hb1'.trans (hbB.mono hb1'.size)).trans hb2
  clear ho1 hbA hbB hb1 hb2 hb1' h hnil
  go_enter Tryz.func35, Tryz.ntmps35
  go_wp2_with (first
    | (at_builtin; refine wpList_append_run rfl (.tmp 5) (.tmp 6) 32 32 rfl _ _ rfl rfl v1 w1 hr1 ?_)
    | (at_builtin; refine wpList_append_run rfl (.tmp 7) (.tmp 19) 32 32 rfl _ _ rfl rfl v2 w2 hr2 ?_))
  go_ret
  exact ⟨_, rfl, ho2, hb2'⟩
set_option maxHeartbeats 400000 in
theorem refputtext_any (a : Option Addr) (cap : Nat) (l : List UInt8) (s : ByteArray) (w : World) (hlen : l.length + s.size ≤ 1073741824) (hcap : l.length ≤ cap) (h : BS w a l) (hnil : a = none → cap = 0) :
    Calls Tryz.prog 36 #[.slice a l.length cap, .string s] w (NewBytes w (l ++ be4 s.size ++ s.data.toList)) := by
  have hput := refput_any a cap l s.size (by omega) w (by omega) hcap h hnil
  clear h hnil
  go_enter Tryz.func36, Tryz.ntmps36
  go_wp2_with (first
    | (go_at_call 35; refine hput.mono ?_; rintro e w1 ⟨v1, rfl, ho1, hb1⟩; obtain ⟨v2, w2, hr2, ho2, hb2⟩ := run_own_text w1 w.heap.size v1 _ s ho1 hb1.size (by simp [be4]; omega))
    | (at_builtin; refine wpList_append_run rfl (.tmp 9) (.tmp 10) 32 9 rfl _ _ rfl rfl v2 w2 hr2 ?_))
  go_ret
  exact ⟨_, rfl, ho2, hb1.trans hb2⟩
end Go.Proofs.YtplmmamebfpcjaaGreatDoor.Oc
end
section
/- tesseraref1.Sum: its contract: the sum of the bytes, bit by bit. -/
namespace Go.Proofs.YtplmmamebfpcjaaGreatDoor.Oc
set_option maxRecDepth 100000
open Go.RowKit
/-- The register behind k of a byte's bits. -/
def mid (n c k : Nat) : Nat := hsN k (n ^^^ c) ^^^ (c / 2 ^ k)
theorem mid_zero (n c : Nat) : mid n c 0 = n := by
  unfold mid; simp only [hsN, Nat.pow_zero, Nat.div_one]; rw [Nat.xor_assoc, Nat.xor_self, Nat.xor_zero]
theorem mid_end (n c : Nat) (h : c < 256) : mid n c 8 = hsN 8 (n ^^^ c) := by
  unfold mid; rw [Nat.div_eq_of_lt (by omega), Nat.xor_zero]
theorem mid_lt (n c k : Nat) (hn : n < 4294967296) (h : c < 256) : mid n c k < 4294967296 := by
  have h1 : c / 2 ^ k ≤ c := Nat.div_le_self _ _
  exact Nat.xor_lt_two_pow (n := 32) (hsN_lt _ _ (Nat.xor_lt_two_pow (n := 32) hn (by omega))) (by omega)
theorem mid_succ (n c k : Nat) : mid n c (k + 1) = hs1 (mid n c k ^^^ (c / 2 ^ k % 2)) := by
  have h := split_xor (c / 2 ^ k) 1
  have h2 : hs1 (c / 2 ^ k / 2 ^ 1 * 2 ^ 1) = c / 2 ^ (k + 1) := by
    have := hsN_shift 1 (c / 2 ^ k / 2 ^ 1)
    rw [hsN_one] at this
    rw [this, Nat.pow_add, ← Nat.div_div_eq_div_mul]
  have h3 : mid n c k ^^^ (c / 2 ^ k % 2) = hsN k (n ^^^ c) ^^^ (c / 2 ^ k / 2 ^ 1 * 2 ^ 1) := by
    unfold mid
    rw [Nat.xor_assoc]
    congr 1
    rw [show c / 2 ^ k % 2 = c / 2 ^ k % 2 ^ 1 from rfl]
    generalize c / 2 ^ k = x at h ⊢
    calc x ^^^ x % 2 ^ 1 = ((x / 2 ^ 1 * 2 ^ 1) ^^^ (x % 2 ^ 1)) ^^^ x % 2 ^ 1 := by rw [← h]
      _ = _ := by rw [Nat.xor_assoc, Nat.xor_self, Nat.xor_zero]
  rw [h3, hs1_xor, h2]
  rfl
theorem hs1_bit (m d : Nat) (hd : d < 2) : hs1 (m ^^^ d) = if m % 2 = d then m / 2 else (m / 2) ^^^ 3988292384 := by
  have h1 := xor_mod2 m d
  have h2 : (m ^^^ d) / 2 = m / 2 := by
    have : (m ^^^ d) / 2 = m / 2 ^^^ d / 2 := Nat.xor_div_two
    rw [this, show d / 2 = 0 from by omega, Nat.xor_zero]
  unfold hs1
  rw [h1, h2]
  by_cases h : m % 2 = d
  · rw [if_neg (by omega), if_pos h]
  · rw [if_pos (by omega), if_neg h]
theorem ref_test (m c q : Nat) (hm : m < 4294967296) (hc : c < 256) : (bits BinOp.and IntKind.u32 (m : Int) 1 != bits BinOp.and IntKind.u32 ((c : Int) / 2 ^ q) 1) = !decide (m % 2 = c / 2 ^ q % 2) := by
  have h0 : c / 2 ^ q ≤ c := Nat.div_le_self _ _
  have e1 := u32_and_nat m 1 hm (by omega)
  have e2 := u32_and_nat (c / 2 ^ q) 1 (by omega) (by omega)
  rw [Nat.and_one_is_mod] at e1 e2
  have e3 : (c : Int) / 2 ^ q = ((c / 2 ^ q : Nat) : Int) := by
    rw [Int.natCast_ediv]; congr 1
  rw [e3, show (1 : Int) = ((1 : Nat) : Int) from rfl, e1, e2]
  generalize c / 2 ^ q % 2 = y
  generalize m % 2 = x
  by_cases h : x = y
  · subst h; simp
  · have h' : ¬ (x : Int) = (y : Int) := by omega
    simp [h, h']
theorem ref_yes (n m c q : Nat) (hm : m < 4294967296) (hc : c < 256) (e : m = mid n c q) (h : (bits BinOp.and IntKind.u32 (m : Int) 1 != bits BinOp.and IntKind.u32 ((c : Int) / 2 ^ q) 1) = true) :
    bits BinOp.xor IntKind.u32 ((m : Int) / 2) 3988292384 = (mid n c (q + 1) : Nat) := by
  rw [ref_test m c q hm hc] at h
  have h' : ¬ m % 2 = c / 2 ^ q % 2 := by simpa using h
  have e0 := xorp (m / 2) (by omega)
  rw [show (((m / 2 : Nat)) : Int) = (m : Int) / 2 from by omega] at e0
  rw [e0, mid_succ, ← e, hs1_bit _ _ (by omega), if_neg h']
theorem ref_no (n m c q : Nat) (hm : m < 4294967296) (hc : c < 256) (e : m = mid n c q) (h : (bits BinOp.and IntKind.u32 (m : Int) 1 != bits BinOp.and IntKind.u32 ((c : Int) / 2 ^ q) 1) = false) :
    (m : Int) / 2 = (mid n c (q + 1) : Nat) := by
  rw [ref_test m c q hm hc] at h
  have h' : m % 2 = c / 2 ^ q % 2 := by simpa using h
  rw [mid_succ, ← e, hs1_bit _ _ (by omega), if_pos h']
  omega
set_option maxHeartbeats 800000 in
theorem refsum_some (b off cap : Nat) (l : List UInt8) (w : World) (hlen : l.length ≤ 9223372036854775807) (hc : ∀ j, j < l.length → w.cell? ⟨b, off + j, none⟩ = some (.int .u8 ((l.getD j 0).toNat : Int))) :
    Calls Tryz.prog 38 #[.slice (some ⟨b, off, none⟩) l.length cap] w fun e w' => e = .returned (.int .u32 (crc l : Nat)) ∧ Below w.heap.size w w' := by
  go_enter Tryz.func38, Tryz.ntmps38
  go_wp2
  go_loop [3, 4] (fun r i => ∃ (k n : Nat), k ≤ l.length ∧ i = .int .i64 k ∧ r = .int .u32 n ∧ n = crcR 4294967295 (l.take k)) (fun _ i => l.length - (intOf i).toNat)
  case atStart => exact ⟨0, 4294967295, Nat.zero_le _, rfl, rfl, rfl⟩
  case round =>
    obtain ⟨k, n, hk, rfl, rfl, hn⟩ := hrel
    have hnb : n < 4294967296 := by rw [hn]; exact crcR_lt _ _ (by omega)
    by_cases hlt : k < l.length
    · obtain ⟨c, hcd⟩ : ∃ c : Nat, c = (l.getD k 0).toNat := ⟨_, rfl⟩
      have hcell := hc k hlt
      rw [← hcd] at hcell
      have hcb : c < 256 := by rw [hcd]; exact UInt8.toNat_lt _
      have HB : Hid (n < 4294967296) := hnb
      have HNext : Hid (hsN 8 (n ^^^ c) = crcR 4294967295 (l.take (k + 1))) := by
        rw [crcR_snoc _ _ _ hlt, ← hn, ← hcd]; exact rfl
      clear hn hcd hnb hc
      go_wp2
      go_loop [3, 5] (fun r j => ∃ (q m : Nat), q ≤ 8 ∧ j = .int .i64 q ∧ r = .int .u32 m ∧ m = mid n c q) (fun _ j => 8 - (intOf j).toNat)
      case atStart => exact ⟨0, n, Nat.zero_le _, rfl, rfl, (mid_zero n c).symm⟩
      case round =>
        obtain ⟨q, m, hq, rfl, rfl, hm⟩ := hrel
        have HM : Hid (m = mid n c q) := hm
        clear hm
        by_cases hq8 : q < 8
        · go_wp2
          · have ht : (bits BinOp.and IntKind.u32 (m : Int) 1 != bits BinOp.and IntKind.u32 ((c : Int) / 2 ^ q) 1) = true := by assumption
            have hm : m < 4294967296 := by rw [HM.out]; exact mid_lt n c q HB.out hcb
            exact ⟨⟨q + 1, _, by omega, by go_num, int_eq (ref_yes n m c q hm hcb HM.out ht), rfl⟩, by simp [intOf]; omega⟩
          · have ht : (bits BinOp.and IntKind.u32 (m : Int) 1 != bits BinOp.and IntKind.u32 ((c : Int) / 2 ^ q) 1) = false := by assumption
            have hm : m < 4294967296 := by rw [HM.out]; exact mid_lt n c q HB.out hcb
            exact ⟨⟨q + 1, _, by omega, by go_num, int_eq (ref_no n m c q hm hcb HM.out ht), rfl⟩, by simp [intOf]; omega⟩
        · have hq' : q = 8 := by omega
          subst hq'
          go_wp2
          exact ⟨⟨k + 1, _, by omega, by go_num, rfl, by rw [HM.out, mid_end n c hcb]; exact HNext.out⟩, by simp [intOf]; omega⟩
    · have hkl : k = l.length := by omega
      subst hkl
      rw [List.take_length] at hn
      have HB : Hid (n < 4294967296) := hnb
      have HN : Hid (n = crcR 4294967295 l) := hn
      clear hnb hn hc
      go_wp2
      go_ret
      refine ⟨?_, Below.refl _ _⟩
      have := u32_xor_nat 4294967295 n (by omega) HB.out
      rw [show IntKind.u32.max = ((4294967295 : Nat) : Int) from rfl, this, HN.out]
      rfl
theorem refsum_none (a : Option Addr) (cap : Nat) (w : World) :
    Calls Tryz.prog 38 #[.slice a 0 cap] w fun e w' => e = .returned (.int .u32 0) ∧ Below w.heap.size w w' := by
  go_enter Tryz.func38, Tryz.ntmps38
  go_wp2
  refine wp_loop_rounds 1 ?_
  rw [rounds_succ]
  go_wp2
  go_ret
  exact ⟨rfl, Below.refl _ _⟩
/-- THE CONTRACT: of any list of bytes. -/
theorem refsum_any (a : Option Addr) (cap : Nat) (l : List UInt8) (w : World) (hlen : l.length ≤ 9223372036854775807) (h : BS w a l) :
    Calls Tryz.prog 38 #[.slice a l.length cap] w fun e w' => e = .returned (.int .u32 (crc l : Nat)) ∧ Below w.heap.size w w' := by
  rcases h with rfl | ⟨b, off, rfl, hc⟩
  · exact refsum_none a cap w
  · exact refsum_some b off cap l w hlen hc
end Go.Proofs.YtplmmamebfpcjaaGreatDoor.Oc
end
section
/- tesseraref6.spans, Save: their contracts. -/
namespace Go.Proofs.YtplmmamebfpcjaaGreatDoor
open Go.RowKit Go.Sort Go.Joins
set_option linter.unusedVariables false
set_option maxRecDepth 100000
theorem sp_nats {A : List Sp} (hS : Sb A) {k : Nat} {x : Sp} (hx : A[k]? = some x) : ∃ lo hi : Nat, x.lo = (lo : Nat) ∧ x.hi = (hi : Nat) ∧ lo ≤ 1114111 ∧ hi ≤ 1114111 ∧ spF x = Oc.be4 lo ++ Oc.be4 hi := by
  obtain ⟨h1, h2⟩ := hS k x hx
  refine ⟨x.lo.toNat, x.hi.toNat, by omega, by omega, by omega, by omega, rfl⟩
set_option maxHeartbeats 4000000 in
theorem refspans_any (a : Option Addr) (cap : Nat) (l : List UInt8) (b : Option Addr) (cb : Nat) (A : List Sp) (w : World) (hl : l.length ≤ 1073741824) (hcap : l.length ≤ cap) (hnil : a = none → cap = 0) (h : Oc.BS w a l) (hA : SPS w b A) (hS : Sb A) (hn : A.length ≤ 4096) :
    Calls Tryz.prog 37 #[.slice a l.length cap, .slice b A.length cb] w (Oc.NewBytes w (l ++ spansF A)) := by
  have hP := Oc.refput_any a cap l A.length (by omega) w (by omega) hcap h hnil
  have HA : Hid (SPS w b A) := hA
  have HS : Hid (Sb A) := hS
  obtain ⟨m, hm⟩ : ∃ m, m = A.length := ⟨_, rfl⟩
  obtain ⟨nl, hnl⟩ : ∃ nl, nl = l.length := ⟨_, rfl⟩
  rw [← hm, ← hnl] at hP ⊢
  rw [← hm] at hn
  rw [← hnl] at hl
  have HM : Hid (m = A.length) := hm
  have HL : Hid (nl = l.length) := hnl
  have HF : Hid (spansF A = Oc.be4 m ++ spsF A) := by rw [hm]; rfl
  clear hA hS hm hnl hcap h hnil
  go_enter Tryz.func37, Tryz.ntmps37
  go_wp2_with fail
  refine hP.mono ?_
  rintro e w1 ⟨v1, rfl, ho1, hb1⟩
  clear hP
  go_wp2_with fail
  go_loopw [0, 5] (fun u i wr => ∃ k : Nat, k ≤ m ∧ i = .int .i64 (k : Nat) ∧ Oc.OwnS wr w.heap.size u (l ++ Oc.be4 m ++ spsF (A.take k)) ∧ Below w.heap.size w wr) (fun _ i _ => m - (intOf i).toNat)
  case atStart => exact ⟨0, Nat.zero_le _, rfl, by rw [List.take_zero]; simpa [spsF] using ho1, hb1⟩
  case round =>
    obtain ⟨k, hk, rfl, hO, hB⟩ := hrel
    obtain ⟨g, c, rfl, q1, q2, q3, q4, hbs⟩ := hO.form (by rw [List.length_append, List.length_append]; show 0 < _ + 4 + _; omega)
    have htk : (A.take k).length = k := by rw [List.length_take, ← HM.out]; omega
    have hlen : (l ++ Oc.be4 m ++ spsF (A.take k)).length = nl + 4 + k * 8 := by rw [List.length_append, List.length_append, spsF_len, ← HL.out, htk]; rfl
    clear htk
    by_cases hlt : k < m
    · have hkn : k < A.length := by rw [← HM.out]; exact hlt
      obtain ⟨lo, hi, e1, e2, b1, b2, e3⟩ := sp_nats HS.out (List.getElem?_eq_getElem hkn)
      have hA1 : SPS wr b A := HA.out.below hB
      rcases hA1 with h0 | ⟨bb, off, rfl, hc⟩
      · rw [h0] at hkn; exact absurd hkn (by simp)
      have hxx := hc k _ (List.getElem?_eq_getElem hkn)
      obtain ⟨x1, x2⟩ := hxx
      rw [e1] at x1
      rw [e2] at x2
      have HNK : Hid (spsF (A.take (k + 1)) = spsF (A.take k) ++ (Oc.be4 lo ++ Oc.be4 hi)) := Lib.hid (by rw [List.take_succ_eq_append_getElem hkn, spsF_snoc, e3])
      obtain ⟨L, hL⟩ : ∃ L, L = l ++ Oc.be4 m ++ spsF (A.take k) := ⟨_, rfl⟩
      have HLL : Hid (L = l ++ Oc.be4 m ++ spsF (A.take k)) := hL
      rw [← hL] at hlen hbs q3 hO ⊢
      clear hL
      have hP := Oc.refput_any (some ⟨g, 0, none⟩) c L lo (by omega) wr (by rw [hlen]; omega) q3 hbs (by intro h; cases h)
      clear hc e1 e2 e3 hbs hO
      rw [hlen] at hP ⊢
      have HLN := Lib.hid hlen
      clear hlen
      go_wp2_with fail
      refine hP.mono ?_
      rintro e w2 ⟨v2, rfl, ho2, hb2⟩
      have hlen2 : (L ++ Oc.be4 lo).length = nl + 4 + k * 8 + 4 := by rw [List.length_append, HLN.out]; rfl
      obtain ⟨g2, c2, rfl, p1, p2, p3, p4, hbs2⟩ := ho2.form (by rw [hlen2]; omega)
      have hP2 := Oc.refput_any (some ⟨g2, 0, none⟩) c2 _ hi (by omega) w2 (by rw [hlen2]; omega) p3 hbs2 (by intro h; cases h)
      have x3 := (hb2.cell (World.block_lt_of_cell? wr _ x2)).trans x2
      rw [hlen2] at hP2 ⊢
      have HB2 := Lib.hid (hB.trans (hb2.mono hB.size))
      clear hP ho2 hbs2 hlen2 x1 x2 hb2 hB
      go_wp2_with fail
      refine hP2.mono ?_
      rintro e w3 ⟨v3, rfl, ho3, hb3⟩
      have HB3 := Lib.hid (HB2.out.trans (hb3.mono HB2.out.size))
      have HO3 : Hid (Oc.OwnS w3 w.heap.size v3 (l ++ Oc.be4 m ++ spsF (A.take (k + 1)))) := Lib.hid (by
        have := OwnB.low (B := w.heap.size) ho3 HB2.out.size
        rw [HLL.out] at this
        rw [HNK.out]
        simpa only [List.append_assoc] using this)
      clear hP2 ho3 hb3
      go_wp2_with fail
      go_roundw
      case rel => exact ⟨k + 1, by omega, by go_num, HO3.out, HB3.out⟩
      case measure => simp only [intOf]; omega
    · have hkm : A.take k = A := List.take_of_length_le (by rw [← HM.out]; omega)
      have HOO : Hid (Oc.OwnS wr w.heap.size (.slice (some ⟨g, 0, none⟩) (nl + 4 + k * 8) c) (l ++ spansF A)) := Lib.hid (by
        rw [hlen, hkm] at hO
        rw [HF.out, ← List.append_assoc]
        exact hO)
      rw [hlen]
      clear hO hbs hkm hlen
      go_wp2_with fail
      go_ret
      exact ⟨_, rfl, HOO.out, hB⟩
end Go.Proofs.YtplmmamebfpcjaaGreatDoor
end
section
/- tesseraref6.Save: its contract. -/
namespace Go.Proofs.YtplmmamebfpcjaaGreatDoor
open Go.RowKit Go.Sort Go.Joins
set_option linter.unusedVariables false
set_option maxRecDepth 100000
set_option maxHeartbeats 8000000 in
theorem refSave_any (aw am a b c : Option Addr) (cw cm ca cb cc : Nat) (ws : List ByteArray) (ms : List Mg) (A B C : List Sp) (w : World) (hk : MOk ws ms A B C) (hW : WSP w aw ws) (hM : MSP w am ms) (hA : SPS w a A) (hB : SPS w b B) (hC : SPS w c C) :
    Calls Tryz.prog 12 #[.agg #[.slice aw ws.length cw, .slice am ms.length cm, .slice a A.length ca, .slice b B.length cb, .slice c C.length cc]] w (Oc.NewBytes w (fileF ws ms A B C)) := by
  have HNM : Hid (ws.length = ms.length) := hk.nm
  have hm4 := hk.m4
  have hw4 : ws.length ≤ 4096 := by have := hk.nm; omega
  have hla := hk.la
  have hlb := hk.lb
  have hlc := hk.lc
  have HMB : Hid (Mb ms) := hk.mb
  have HSB : Hid (Sb A ∧ Sb B ∧ Sb C) := hk.sb
  have HWB : Hid (∀ (i : Nat) x, ws[i]? = some x → x.size ≤ 256) := hk.wb
  obtain ⟨nw, hnw⟩ : ∃ nw, nw = ws.length := ⟨_, rfl⟩
  obtain ⟨nm, hnmm⟩ : ∃ nm, nm = ms.length := ⟨_, rfl⟩
  rw [← hnw, ← hnmm]
  have HN : Hid (nw = ws.length) := hnw
  have HM2 : Hid (nm = ms.length) := hnmm
  have hnw4 : nw ≤ 4096 := by omega
  have hnm4 : nm ≤ 4096 := by omega
  have HFF : Hid (fileF ws ms A B C = bodyF ws ms A B C ++ Oc.be4 (Oc.crc (bodyF ws ms A B C))) := Lib.hid rfl
  have HBF : Hid (bodyF ws ms A B C = magicL ++ Oc.be4 nw ++ wordsF ws ++ mgsF ms ++ spansF A ++ spansF B ++ spansF C) := Lib.hid (by rw [hnw]; rfl)
  clear hk hnw hnmm hw4 hm4
  have hD0 := DBox.new w (.slice aw nw cw) (.slice am nm cm) (.slice a A.length ca) (.slice b B.length cb) (.slice c C.length cc)
  have b0 := box_below w (.cells #[.slice aw nw cw, .slice am nm cm, .slice a A.length ca, .slice b B.length cb, .slice c C.length cc] 26)
  obtain ⟨Y, hY⟩ : ∃ Y, Y = w.alloc (.cells #[.slice aw nw cw, .slice am nm cm, .slice a A.length ca, .slice b B.length cb, .slice c C.length cc] 26) := ⟨_, rfl⟩
  have hYs : Y.heap.size = w.heap.size + 1 := by rw [hY]; simp
  have hcv := run_convert_bytes_const_at (P := Tryz.prog) Y 32 5 #[.int .u8 66, .int .u8 80, .int .u8 69, .int .u8 49] 4 4 (w.heap.size + 1) hYs.symm Tryz.underlying32 Tryz.underlying5
  have b1 := (Below.refl Y.heap.size Y).alloc (Nat.le_refl _) (.cells #[.int .u8 66, .int .u8 80, .int .u8 69, .int .u8 49] 5 (4, 5))
  have hs1 : Oc.BS (Y.alloc (.cells #[.int .u8 66, .int .u8 80, .int .u8 69, .int .u8 49] 5 (4, 5))) (some ⟨w.heap.size + 1, 0, none⟩) magicL := by
    rw [← hYs]; exact Oc.BS.marked Y magicL 5 (4, 5)
  rw [← hY] at hD0 b0
  have hD1 := hD0.below b1 hD0.lt
  have B1 := b0.trans (b1.mono b0.size)
  have e0 : (Y.alloc (.cells #[.int .u8 66, .int .u8 80, .int .u8 69, .int .u8 49] 5 (4, 5))).cell? ⟨w.heap.size, 0, none⟩ = some (.slice aw nw cw) := hD1.c0
  rw [hY] at hcv e0
  go_enter Tryz.func12, Tryz.ntmps12
  go_wp2_with fail
  rw [← hY]
  obtain ⟨V, hV⟩ : ∃ V, V = Y.alloc (.cells #[.int .u8 66, .int .u8 80, .int .u8 69, .int .u8 49] 5 (4, 5)) := ⟨_, rfl⟩
  rw [← hV] at hs1 hD1 B1 ⊢
  have HWS : Hid (WSP V aw ws) := Lib.hid (hW.below B1)
  have HMS : Hid (MSP V am ms) := Lib.hid (hM.below B1)
  have HA : Hid (SPS V a A) := Lib.hid (hA.below B1)
  have HB : Hid (SPS V b B) := Lib.hid (hB.below B1)
  have HC : Hid (SPS V c C) := Lib.hid (hC.below B1)
  have hP := Oc.refput_any (some ⟨w.heap.size + 1, 0, none⟩) 4 magicL nw (by omega) V (by decide) (by decide) hs1 (by intro h; cases h)
  rw [show magicL.length = 4 from rfl] at hP
  obtain ⟨z, hz⟩ : ∃ z, z = w.heap.size := ⟨_, rfl⟩
  rw [← hz] at hD1 hP ⊢
  have HD : Hid (DBox V z (.slice aw nw cw) (.slice am nm cm) (.slice a A.length ca) (.slice b B.length cb) (.slice c C.length cc)) := Lib.hid hD1
  clear hW hM hA hB hC hcv e0 hV hY hYs b0 b1 hs1 hD0 hD1 hz
  refine hP.mono ?_
  rintro e w1 ⟨v1, rfl, ho1, hb1⟩
  clear hP
  go_wp2_with fail
  go_loopw [3, 4] (fun u i wr => ∃ k : Nat, k ≤ nw ∧ i = .int .i64 (k : Nat) ∧ Oc.OwnS wr V.heap.size u (magicL ++ Oc.be4 nw ++ wordsF (ws.take k)) ∧ Below V.heap.size V wr) (fun _ i _ => nw - (intOf i).toNat)
  case atStart => exact ⟨0, Nat.zero_le _, rfl, by rw [List.take_zero]; simpa [wordsF] using ho1, hb1⟩
  case round =>
    obtain ⟨k, hk, rfl, hO, hB⟩ := hrel
    have e0 := (HD.out.below hB HD.out.lt).c0
    have htk : (ws.take k).length = k := by rw [List.length_take, ← HN.out]; omega
    have hwl := wordsF_len (ws.take k) (fun i y hy => HWB.out i y (by rw [List.getElem?_take] at hy; split at hy <;> simp_all))
    rw [htk] at hwl
    obtain ⟨L, hL⟩ : ∃ L, L = magicL ++ Oc.be4 nw ++ wordsF (ws.take k) := ⟨_, rfl⟩
    have HLL : Hid (L = magicL ++ Oc.be4 nw ++ wordsF (ws.take k)) := Lib.hid hL
    have hlen : L.length = 8 + (wordsF (ws.take k)).length := by rw [hL, List.length_append]; rfl
    have hl2 : L.length ≤ 8 + k * 260 := by omega
    have hl3 : 0 < L.length := by omega
    rw [← hL] at hO
    clear hL htk hwl hlen
    obtain ⟨g, cg, rfl, q1, q2, q3, q4, hbs⟩ := hO.form hl3
    by_cases hlt : k < nw
    · have hkn : k < ws.length := by rw [← HN.out]; exact hlt
      obtain ⟨bb, off, rfl, hc⟩ := (HWS.out.below hB).at_ (List.getElem?_eq_getElem hkn)
      have hxs := HWB.out k _ (List.getElem?_eq_getElem hkn)
      obtain ⟨x, hx⟩ : ∃ x, x = ws[k] := ⟨_, rfl⟩
      rw [← hx] at hc hxs
      have HNK : Hid (wordsF (ws.take (k + 1)) = wordsF (ws.take k) ++ (Oc.be4 x.size ++ x.data.toList)) := Lib.hid (by rw [hx, List.take_succ_eq_append_getElem hkn, wordsF_snoc])
      have hP := Oc.refputtext_any (some ⟨g, 0, none⟩) cg L x wr (by omega) q3 hbs (by intro h; cases h)
      obtain ⟨nl, hnl⟩ : ∃ nl, nl = L.length := ⟨_, rfl⟩
      rw [← hnl] at hP ⊢
      clear hx hbs hO hnl
      go_wp2_with fail
      refine hP.mono ?_
      rintro e w2 ⟨v2, rfl, ho2, hb2⟩
      have HB2 := Lib.hid (hB.trans (hb2.mono hB.size))
      have HO2 : Hid (Oc.OwnS w2 V.heap.size v2 (magicL ++ Oc.be4 nw ++ wordsF (ws.take (k + 1)))) := Lib.hid (by
        have := OwnB.low (B := V.heap.size) ho2 hB.size
        rw [HLL.out] at this
        rw [HNK.out]
        simpa only [List.append_assoc] using this)
      clear hP ho2 hb2 hc hB
      go_wp2_with fail
      go_roundw
      case rel => exact ⟨k + 1, by omega, by go_num, HO2.out, HB2.out⟩
      case measure => simp only [intOf]; omega
    · have hkm : ws.take k = ws := List.take_of_length_le (by rw [← HN.out]; omega)
      rw [hkm] at HLL
      have hl4 : L.length ≤ 1064968 := by
        have := Nat.mul_le_mul_right 260 hnw4
        have hkk : k = nw := by omega
        rw [hkk] at hl2
        omega
      have e1 := (HD.out.below hB HD.out.lt).c1
      have HO1 : Hid (Oc.OwnS wr V.heap.size (.slice (some ⟨g, 0, none⟩) L.length cg) L) := Lib.hid hO
      have HB1 := Lib.hid hB
      obtain ⟨W5, hW5⟩ : ∃ W, W = wr := ⟨_, rfl⟩
      rw [← hW5] at HO1 HB1 e0 e1 ⊢
      obtain ⟨nl, hnl⟩ : ∃ nl, nl = L.length := ⟨_, rfl⟩
      rw [← hnl] at HO1 hl4 ⊢
      have HNL : Hid (nl = L.length) := Lib.hid hnl
      have hn8 : 0 < nl := by rw [hnl]; exact hl3
      clear hkm hW5 hO hB hbs hl2 hl3 q1 q2 q3 q4 hnl ho1 hb1
      go_wp2_with fail
      clear e0 e1
      go_loopw [3, 5] (fun u i wr => ∃ k : Nat, k ≤ nm ∧ i = .int .i64 (k : Nat) ∧ Oc.OwnS wr V.heap.size u (L ++ mgsF (ms.take k)) ∧ Below V.heap.size V wr) (fun _ i _ => nm - (intOf i).toNat)
      case atStart => exact ⟨0, Nat.zero_le _, rfl, by rw [List.take_zero]; simpa [mgsF] using HO1.out, HB1.out⟩
      case round =>
        obtain ⟨k, hk, rfl, hO, hB⟩ := hrel
        have e1 := (HD.out.below hB HD.out.lt).c1
        have htk : (ms.take k).length = k := by rw [List.length_take, ← HM2.out]; omega
        obtain ⟨L2, hL2⟩ : ∃ L2, L2 = L ++ mgsF (ms.take k) := ⟨_, rfl⟩
        have HLL2 : Hid (L2 = L ++ mgsF (ms.take k)) := Lib.hid hL2
        have hln : L2.length = nl + k * 12 := by rw [hL2, List.length_append, mgsF_len, htk, ← HNL.out]
        rw [← hL2] at hO
        clear hL2 htk
        obtain ⟨g2, cg2, rfl, q1, q2, q3, q4, hbs⟩ := hO.form (by rw [hln]; omega)
        by_cases hlt : k < nm
        · have hkn : k < ms.length := by rw [← HM2.out]; exact hlt
          obtain ⟨bb, off, rfl, d0, d1, d2⟩ := (HMS.out.below hB).at_ (List.getElem?_eq_getElem hkn)
          obtain ⟨⟨m1, m2⟩, ⟨m3, m4⟩, m5, m6⟩ := HMB.out k _ (List.getElem?_eq_getElem hkn)
          obtain ⟨x, hx⟩ : ∃ x, x = ms[k] := ⟨_, rfl⟩
          rw [← hx] at d0 d1 d2 m1 m2 m3 m4 m5 m6
          obtain ⟨y1, hy1⟩ : ∃ y1 : Nat, x.l = y1 := ⟨x.l.toNat, by omega⟩
          obtain ⟨y2, hy2⟩ : ∃ y2 : Nat, x.r = y2 := ⟨x.r.toNat, by omega⟩
          obtain ⟨y3, hy3⟩ : ∃ y3 : Nat, x.i = y3 := ⟨x.i.toNat, by omega⟩
          have HNK : Hid (mgsF (ms.take (k + 1)) = mgsF (ms.take k) ++ (Oc.be4 y1 ++ Oc.be4 y2 ++ Oc.be4 y3)) := Lib.hid (by
            rw [List.take_succ_eq_append_getElem hkn, mgsF_snoc, ← hx]
            unfold mgF
            rw [hy1, hy2, hy3]
            rfl)
          rw [hy1] at d0 m2
          rw [hy2] at d1 m4
          rw [hy3] at d2 m6
          clear hx hy1 hy2 hy3 m1 m3 m5 hO
          have hP := Oc.refput_any (some ⟨g2, 0, none⟩) cg2 L2 y1 (by omega) wr (by rw [hln]; omega) q3 hbs (by intro h; cases h)
          rw [hln] at hP q3 ⊢
          have HLN := Lib.hid hln
          clear hln hbs
          go_wp2_with fail
          refine hP.mono ?_
          rintro e w2 ⟨v2, rfl, ho2, hb2⟩
          have hn2 : (L2 ++ Oc.be4 y1).length = nl + k * 12 + 4 := by rw [List.length_append, HLN.out]; rfl
          obtain ⟨g3, c3, rfl, p1, p2, p3, p4, hbs2⟩ := ho2.form (by rw [hn2]; omega)
          have hP := Oc.refput_any (some ⟨g3, 0, none⟩) c3 _ y2 (by omega) w2 (by rw [hn2]; omega) p3 hbs2 (by intro h; cases h)
          have f1 := (HD.out.below (hB.trans (hb2.mono hB.size)) HD.out.lt).c1
          have d1 := (hb2.cell (World.block_lt_of_cell? wr _ d1)).trans d1
          have d2 := (hb2.cell (World.block_lt_of_cell? wr _ d2)).trans d2
          have HB2 := Lib.hid (hB.trans (hb2.mono hB.size))
          have HN2 := Lib.hid hn2
          rw [hn2] at hP p3 ⊢
          clear ho2 hbs2 hn2 hb2 hB e1 d0
          go_wp2_with fail
          refine hP.mono ?_
          rintro e w3 ⟨v3, rfl, ho3, hb3⟩
          have hn3 : (L2 ++ Oc.be4 y1 ++ Oc.be4 y2).length = nl + k * 12 + 8 := by rw [List.length_append, HN2.out]; rfl
          obtain ⟨g4, c4, rfl, p5, p6, p7, p8, hbs3⟩ := ho3.form (by rw [hn3]; omega)
          have hP := Oc.refput_any (some ⟨g4, 0, none⟩) c4 _ y3 (by omega) w3 (by rw [hn3]; omega) p7 hbs3 (by intro h; cases h)
          have HB3 := Lib.hid (HB2.out.trans (hb3.mono HB2.out.size))
          have f2 := (HD.out.below HB3.out HD.out.lt).c1
          have d2 := (hb3.cell (World.block_lt_of_cell? w2 _ d2)).trans d2
          rw [hn3] at hP p7 ⊢
          clear ho3 hbs3 hn3 hb3 f1 d1
          go_wp2_with fail
          refine hP.mono ?_
          rintro e w4 ⟨v4, rfl, ho4, hb4⟩
          have HB4 := Lib.hid (HB3.out.trans (hb4.mono HB3.out.size))
          have HO4 : Hid (Oc.OwnS w4 V.heap.size v4 (L ++ mgsF (ms.take (k + 1)))) := Lib.hid (by
            have := OwnB.low (B := V.heap.size) ho4 HB3.out.size
            rw [HLL2.out] at this
            rw [HNK.out]
            simpa only [List.append_assoc] using this)
          clear hP ho4 hb4
          go_wp2_with fail
          go_roundw
          case rel => exact ⟨k + 1, by omega, by go_num, HO4.out, HB4.out⟩
          case measure => simp only [intOf]; omega
        · have hkm : ms.take k = ms := List.take_of_length_le (by rw [← HM2.out]; omega)
          rw [hkm] at HLL2
          have hk4 : k ≤ 4096 := by omega
          have s2 := (HD.out.below hB HD.out.lt).c2
          have bA : (spansF A).length ≤ 4100 := by rw [spansF_len]; omega
          have bB : (spansF B).length ≤ 4100 := by rw [spansF_len]; omega
          have bC : (spansF C).length ≤ 4100 := by rw [spansF_len]; omega
          have pA : 0 < (spansF A).length := by rw [spansF_len]; omega
          have pB : 0 < (spansF B).length := by rw [spansF_len]; omega
          have pC : 0 < (spansF C).length := by rw [spansF_len]; omega
          have hP := refspans_any (some ⟨g2, 0, none⟩) cg2 L2 a ca A wr (by omega) q3 (by intro h; cases h) hbs (HA.out.below hB) HSB.out.1 (by omega)
          have HPB := fun a1 cap1 l1 w1 h1 h2 h3 h4 h5 => refspans_any a1 cap1 l1 b cb B w1 h1 h2 h3 h4 h5 HSB.out.2.1 (by omega)
          have HPC := fun a1 cap1 l1 w1 h1 h2 h3 h4 h5 => refspans_any a1 cap1 l1 c cc C w1 h1 h2 h3 h4 h5 HSB.out.2.2 (by omega)
          have HBY : Hid (L2 ++ spansF A ++ spansF B ++ spansF C = bodyF ws ms A B C) := Lib.hid (by rw [HBF.out, HLL2.out, HLL.out])
          have HFF' : Hid (fileF ws ms A B C = bodyF ws ms A B C ++ Oc.be4 (Oc.crc (bodyF ws ms A B C))) := HFF
          obtain ⟨SA, hSA⟩ : ∃ SA, SA = spansF A := ⟨_, rfl⟩
          obtain ⟨SB, hSB⟩ : ∃ SB, SB = spansF B := ⟨_, rfl⟩
          obtain ⟨SC, hSC⟩ : ∃ SC, SC = spansF C := ⟨_, rfl⟩
          obtain ⟨BY, hBY⟩ : ∃ BY, BY = bodyF ws ms A B C := ⟨_, rfl⟩
          obtain ⟨FY, hFY⟩ : ∃ FY, FY = fileF ws ms A B C := ⟨_, rfl⟩
          rw [← hSA] at bA pA hP HBY
          rw [← hSB] at bB pB HPB HBY
          rw [← hSC] at bC pC HPC HBY
          rw [← hBY] at HBY HFF'
          rw [← hFY] at HFF'
          have HFYH : Hid (FY = fileF ws ms A B C) := Lib.hid hFY
          rw [hln] at hP q3 ⊢
          have HLN := Lib.hid hln
          have HB1' := Lib.hid hB
          have HPB := Lib.hid HPB
          have HPC := Lib.hid HPC
          have HNL8 : Hid (nl ≤ 1064968) := Lib.hid hl4
          have hn1 : nl + k * 12 ≤ 1114120 := by omega
          obtain ⟨n2, hn2⟩ : ∃ n2, n2 = nl + k * 12 := ⟨_, rfl⟩
          rw [← hn2] at hP q3 hn1 HLN ⊢
          clear hO hbs hln hkm hB hSA hSB hSC hBY hFY hn2 HFF HBF HLL2 HLL HNL HMB HWB HMS HWS hl4 hk4 HSB
          clear hla hlb hlc hnw4 hnm4 hk
          go_wp2_with fail
          refine hP.mono ?_
          rintro e w2 ⟨v2, rfl, ho2, hb2⟩
          clear hP s2 e1
          have HB2 := Lib.hid (HB1'.out.trans (hb2.mono HB1'.out.size))
          obtain ⟨L3, hL3⟩ : ∃ L3, L3 = L2 ++ SA := ⟨_, rfl⟩
          obtain ⟨n3, hn3⟩ : ∃ n3, n3 = L3.length := ⟨_, rfl⟩
          have hm3 : n2 < n3 ∧ n3 ≤ 1118220 := by
            have : n3 = n2 + SA.length := by rw [hn3, hL3, List.length_append, HLN.out]
            omega
          rw [← hL3] at ho2 HBY
          obtain ⟨g3, c3, rfl, p1, p2, p3, p4, hbs2⟩ := ho2.form (by rw [← hn3]; omega)
          have f3 := (HD.out.below HB2.out HD.out.lt).c3
          have hP := HPB.out (some ⟨g3, 0, none⟩) c3 L3 w2 (by rw [← hn3]; omega) p3 (by intro h; cases h) hbs2 (HB.out.below HB2.out)
          rw [← hn3] at hP p3 ⊢
          have HN3 := Lib.hid hn3
          clear ho2 hbs2 hn3 hb2 hL3 HPB HLN
          go_wp2_with fail
          refine hP.mono ?_
          rintro e w3 ⟨v3, rfl, ho3, hb3⟩
          clear hP f3
          have HB3 := Lib.hid (HB2.out.trans (hb3.mono HB2.out.size))
          obtain ⟨L4, hL4⟩ : ∃ L4, L4 = L3 ++ SB := ⟨_, rfl⟩
          obtain ⟨n4, hn4⟩ : ∃ n4, n4 = L4.length := ⟨_, rfl⟩
          have hm4 : n3 < n4 ∧ n4 ≤ 1122320 := by
            have : n4 = n3 + SB.length := by rw [hn4, hL4, List.length_append, HN3.out]
            omega
          rw [← hL4] at ho3 HBY
          obtain ⟨g4, c4, rfl, p5, p6, p7, p8, hbs3⟩ := ho3.form (by rw [← hn4]; omega)
          have f4 := (HD.out.below HB3.out HD.out.lt).c4
          have hP := HPC.out (some ⟨g4, 0, none⟩) c4 L4 w3 (by rw [← hn4]; omega) p7 (by intro h; cases h) hbs3 (HC.out.below HB3.out)
          rw [← hn4] at hP p7 ⊢
          have HN4 := Lib.hid hn4
          clear ho3 hbs3 hn4 hb3 hL4 HPC HN3
          go_wp2_with fail
          refine hP.mono ?_
          rintro e w4 ⟨v4, rfl, ho4, hb4⟩
          clear hP f4
          have HB4 := Lib.hid (HB3.out.trans (hb4.mono HB3.out.size))
          rw [HBY.out] at ho4
          obtain ⟨n5, hn5⟩ : ∃ n5, n5 = BY.length := ⟨_, rfl⟩
          have hm5 : n4 < n5 ∧ n5 ≤ 1126420 := by
            have : n5 = n4 + SC.length := by rw [hn5, ← HBY.out, List.length_append, HN4.out]
            omega
          obtain ⟨g5, c5, rfl, r1, r2, r3, r4, hbs4⟩ := ho4.form (by rw [← hn5]; omega)
          have hQ := Oc.refsum_any (some ⟨g5, 0, none⟩) c5 BY w4 (by rw [← hn5]; omega) hbs4
          rw [← hn5] at hQ r3 ⊢
          have HN5 := Lib.hid hn5
          have HS4 : Hid (Oc.BS w4 (some ⟨g5, 0, none⟩) BY) := Lib.hid hbs4
          obtain ⟨y, hy⟩ : ∃ y, y = Oc.crc BY := ⟨_, rfl⟩
          have hcr : y < 4294967296 := by rw [hy]; exact Oc.crc_lt _
          rw [← hy] at hQ HFF'
          clear ho4 hbs4 hn5 hb4 hy HBY HN4
          go_wp2_with fail
          refine hQ.mono ?_
          rintro e w5 ⟨rfl, hb5⟩
          have hP := Oc.refput_any (some ⟨g5, 0, none⟩) c5 BY y hcr w5 (by rw [← HN5.out]; omega) (by rw [← HN5.out]; exact r3) (HS4.out.below hb5) (by intro h; cases h)
          rw [← HN5.out, ← HFF'.out] at hP
          have HB5 := Lib.hid (HB4.out.trans (hb5.mono HB4.out.size))
          clear hQ hb5 hcr
          go_wp2_with fail
          refine hP.mono ?_
          rintro e w6 ⟨v6, rfl, ho6, hb6⟩
          have HB6 := Lib.hid (HB5.out.trans (hb6.mono HB5.out.size))
          have HO6 : Hid (Oc.OwnS w6 w.heap.size v6 (fileF ws ms A B C)) := Lib.hid (by rw [← HFYH.out]; exact OwnB.low ho6 (Nat.le_trans B1.size HB5.out.size))
          clear hP ho6 hb6
          go_wp2_with fail
          go_ret
          exact ⟨_, rfl, HO6.out, B1.trans (HB6.out.mono B1.size)⟩
end Go.Proofs.YtplmmamebfpcjaaGreatDoor
end
section
/- FileSaves: the walk. -/
namespace Go.Proofs.YtplmmamebfpcjaaGreatDoor
open Go.RowKit Go.Sort Go.Joins
set_option linter.unusedVariables false
set_option maxRecDepth 100000 in
set_option maxHeartbeats 4000000 in
theorem fsaves_walk (aw am a b c : Option Addr) (cw cm ca cb cc : Nat) (ws : List ByteArray) (ms : List Mg) (A B C : List Sp) (w : World) (hwf : MWf ms) (hn : ws.length ≤ 8796093022208 ∧ ms.length ≤ 5864062014805 ∧ A.length ≤ 17592186044416 ∧ B.length ≤ 17592186044416 ∧ C.length ≤ 17592186044416) (hW : WSP w aw ws) (hM : MSP w am ms) (hA : Lst w a ca A) (hB : Lst w b cb B) (hC : Lst w c cc C) (hG : GL w) (hP : PT w) :
    Calls Tryz.prog 3 #[.agg #[.slice aw ws.length cw, .slice am ms.length cm, .slice a A.length ca, .slice b B.length cb, .slice c C.length cc]] w fun e w' => e = .returned (.bool true) ∧ Below w.heap.size w w' := by
  have hD := DBox.new w (.slice aw ws.length cw) (.slice am ms.length cm) (.slice a A.length ca) (.slice b B.length cb) (.slice c C.length cc)
  have hb0 := box_below w (.cells #[.slice aw ws.length cw, .slice am ms.length cm, .slice a A.length ca, .slice b B.length cb, .slice c C.length cc] 26)
  have HW : Hid (WSP w aw ws) := hW
  have HM : Hid (MSP w am ms) := hM
  have HA : Hid (Lst w a ca A) := hA
  have HB : Hid (Lst w b cb B) := hB
  have HC : Hid (Lst w c cc C) := hC
  have HG : Hid (GL w) := hG
  have HP : Hid (PT w) := hP
  clear hW hM hA hB hC hG hP
  have x0 := hD.c0
  have x1 := hD.c1
  have x2 := hD.c2
  have x3 := hD.c3
  have x4 := hD.c4
  go_enter Tryz.func3, Tryz.ntmps3
  go_wp2_with fail
  obtain ⟨Y, hY⟩ : ∃ Y, Y = w.alloc (.cells #[.slice aw ws.length cw, .slice am ms.length cm, .slice a A.length ca, .slice b B.length cb, .slice c C.length cc] 26) := ⟨_, rfl⟩
  rw [← hY] at hb0 hD ⊢
  clear hY x0 x1 x2 x3 x4
  obtain ⟨z, hz⟩ : ∃ z, z = w.heap.size := ⟨_, rfl⟩
  have HZ : Hid (z = w.heap.size) := hz
  rw [← hz] at hD ⊢
  clear hz
  refine (keepOf_any aw am a b c cw cm ca cb cc ws ms A B C Y hwf (by omega) (HW.out.below hb0) (HM.out.below hb0) (HA.out.below hb0) (HB.out.below hb0) (HC.out.below hb0) (HG.out.below hb0)).mono ?_
  rintro e w1 ⟨p, rfl, hp1, hp2, hb1⟩
  have B1 := hb0.trans (hb1.mono hb0.size)
  have hD1 := hD.below hb1 hD.lt
  cases hU : upB ws ms A B C with
  | false =>
    obtain rfl := hp2 hU
    clear hp1 hp2 hU hb1 hb0 hn hD hD1
    go_wp2_with fail
    refine (lawKnown_any w1 (HG.out.below B1) (HP.out.stays B1)).mono ?_
    rintro e w2 ⟨rfl, hb2⟩
    go_wp2_with fail
    go_ret
    exact ⟨rfl, B1.trans (hb2.mono B1.size)⟩
  | true =>
    obtain ⟨g, rfl, hMd⟩ := hp1 hU
    have hK := upB_ok hU
    have hpos := file_32 hK
    have hfl := file_len hK
    have hS := fun lo wx h => save_any g lo ws ms A B C wx hK h
    have hRf := fun wx h1 h2 h3 h4 h5 => refSave_any aw am a b c cw cm ca cb cc ws ms A B C wx hK h1 h2 h3 h4 h5
    obtain ⟨F, hF⟩ : ∃ F, F = fileF ws ms A B C := ⟨_, rfl⟩
    rw [← hF] at hpos hfl hS hRf
    obtain ⟨n, hn2⟩ : ∃ n, n = F.length := ⟨_, rfl⟩
    rw [← hn2] at hpos hfl
    have HN : Hid (n = F.length) := hn2
    clear hp1 hp2 hU hb0 hn hF hn2 hD hK
    have HS : ∀ wx, Below w1.heap.size w1 wx → Calls Tryz.prog 11 #[.pointer (some ⟨g, 0, none⟩)] wx fun e w' => ∃ v, e = .returned v ∧ Below wx.heap.size wx w' ∧ ∃ gy cy, v = .slice (some ⟨gy, 0, none⟩) n cy ∧ n ≤ cy ∧ Oc.BS w' (some ⟨gy, 0, none⟩) F := fun wx hbx => by
      refine (hS _ wx (hMd.below hbx)).mono ?_
      rintro e w' ⟨v, rfl, ho, hb⟩
      obtain ⟨gy, cy, rfl, q1, q2, q3, q4, hbs⟩ := ho.form (by rw [← HN.out]; omega)
      rw [← HN.out] at q3 ⊢
      exact ⟨_, rfl, hb, gy, cy, rfl, q3, hbs⟩
    have HR : ∀ wx, Below w1.heap.size w1 wx → Calls Tryz.prog 12 #[.agg #[.slice aw ws.length cw, .slice am ms.length cm, .slice a A.length ca, .slice b B.length cb, .slice c C.length cc]] wx fun e w' => ∃ v, e = .returned v ∧ Below wx.heap.size wx w' ∧ ∃ gy cy, v = .slice (some ⟨gy, 0, none⟩) n cy ∧ n ≤ cy ∧ Oc.BS w' (some ⟨gy, 0, none⟩) F := fun wx hbx => by
      have hBB := B1.trans (hbx.mono B1.size)
      refine (hRf wx (HW.out.below hBB) (HM.out.below hBB) (HA.out.below hBB).at' (HB.out.below hBB).at' (HC.out.below hBB).at').mono ?_
      rintro e w' ⟨v, rfl, ho, hb⟩
      obtain ⟨gy, cy, rfl, q1, q2, q3, q4, hbs⟩ := ho.form (by rw [← HN.out]; omega)
      rw [← HN.out] at q3 ⊢
      exact ⟨_, rfl, hb, gy, cy, rfl, q3, hbs⟩
    have HSm : ∀ g1 c1 g2 c2 wx, Oc.BS wx (some ⟨g1, 0, none⟩) F → Oc.BS wx (some ⟨g2, 0, none⟩) F → Calls Tryz.prog 10 #[.slice (some ⟨g1, 0, none⟩) n c1, .slice (some ⟨g2, 0, none⟩) n c2] wx fun e w' => ∃ v, e = .returned v ∧ Below wx.heap.size wx w' ∧ v = .bool true := fun g1 c1 g2 c2 wx h1 h2 => by
      have h := same_self (some ⟨g1, 0, none⟩) (some ⟨g2, 0, none⟩) c1 c2 F wx (by rw [← HN.out]; omega) h1 h2
      rw [← HN.out] at h
      refine h.mono ?_
      rintro e w' ⟨rfl, h⟩
      exact ⟨_, rfl, h, rfl⟩
    have HK : ∀ wx, Below w1.heap.size w1 wx → Calls Tryz.prog 9 #[] wx fun e w' => ∃ v, e = .returned v ∧ Below wx.heap.size wx w' ∧ v = .bool true := fun wx hbx => by
      have hBB := B1.trans (hbx.mono B1.size)
      refine (lawKnown_any wx (HG.out.below hBB) (HP.out.stays hBB)).mono ?_
      rintro e w' ⟨rfl, h⟩
      exact ⟨_, rfl, h, rfl⟩
    have HD4 : Hid (DBox w1 z _ _ _ _ _) := hD1
    have HB1 : Hid (Below w.heap.size w w1) := B1
    clear HW HM HA HB HC HG HP HN hS hRf hMd hD1 B1 hb1
    go_wp2_with fail
    have hD4 := HD4.out
    refine wp_region_mono 9 [18, 19, 20, 21, 22, 23, 24, 25, 2] [qR (.pointer (some ⟨g, 0, none⟩)),
        fun v wx => ∃ gy cy, v = .slice (some ⟨gy, 0, none⟩) n cy ∧ n ≤ cy ∧ Oc.BS wx (some ⟨gy, 0, none⟩) F,
        qR (.agg #[.slice aw ws.length cw, .slice am ms.length cm, .slice a A.length ca, .slice b B.length cb, .slice c C.length cc]),
        fun v wx => ∃ gy cy, v = .slice (some ⟨gy, 0, none⟩) n cy ∧ n ≤ cy ∧ Oc.BS wx (some ⟨gy, 0, none⟩) F,
        qR (.bool true),
        qR (.bool true),
        qR (.bool true),
        qR (.bool true),
        qR (.bool true)] (by kernel_rfl) (by kernel_rfl) rfl rfl ?stab ?steps ?fin
    case stab =>
      intro φ hφ
      simp only [List.mem_cons, List.not_mem_nil, or_false] at hφ
      rcases hφ with rfl | rfl | rfl | rfl | rfl | rfl | rfl | rfl | rfl
      · exact fun _ _ _ _ h => h
      · rintro v wx w' hb ⟨gy, cy, h1, h2, h3⟩
        exact ⟨gy, cy, h1, h2, h3.below hb⟩
      · exact fun _ _ _ _ h => h
      · rintro v wx w' hb ⟨gy, cy, h1, h2, h3⟩
        exact ⟨gy, cy, h1, h2, h3.below hb⟩
      · exact fun _ _ _ _ h => h
      · exact fun _ _ _ _ h => h
      · exact fun _ _ _ _ h => h
      · exact fun _ _ _ _ h => h
      · exact fun _ _ _ _ h => h
    case steps =>
      have hBx : ∀ wx, Below w1.drew.heap.size w1.drew wx → Below w1.heap.size w1 wx := fun wx hb => ⟨hb.os, hb.tape, hb.output, hb.size, hb.block⟩
      refine ⟨?_, ?_, ?_, ?_, ?_, ?_, ?_, ?_, ?_, trivial⟩
      · intro a' he wx hb hd
        have e0 : a'.eval (.tmp 3) = .pointer (some ⟨g, 0, none⟩) := he.get rfl
        exact mStep_read rfl (by simp [execOp, e0]) rfl
      · intro a' he wx hb hd
        have e0 : a'.eval (.tmp 18) = .pointer (some ⟨g, 0, none⟩) := hd 0 rfl _ _ rfl rfl
        exact mStep_call rfl (by simp [execOp, e0, resolve]; rfl) (HS wx (hBx wx hb))
      · intro a' he wx hb hd
        have e0 : a'.eval (.tmp 1) = .pointer (some ⟨z, 0, none⟩) := he.get rfl
        have hDx := hD4.below (hBx wx hb) hD4.lt
        have c0 := hDx.c0
        have c1 := hDx.c1
        have c2 := hDx.c2
        have c3 := hDx.c3
        have c4 := hDx.c4
        refine mStep_read rfl ?_ rfl
        simp only [execOp, e0]
        go_simp
      · intro a' he wx hb hd
        have e0 : a'.eval (.tmp 20) = .agg #[.slice aw ws.length cw, .slice am ms.length cm, .slice a A.length ca, .slice b B.length cb, .slice c C.length cc] := hd 2 rfl _ _ rfl rfl
        exact mStep_call rfl (by simp [execOp, e0, resolve]; rfl) (HR wx (hBx wx hb))
      · intro a' he wx hb hd
        have e0 := hd 1 rfl _ _ rfl rfl
        have e1 := hd 3 rfl _ _ rfl rfl
        obtain ⟨g1, c1, e0, h1, h2⟩ := e0
        obtain ⟨g2, c2, e1, h3, h4⟩ := e1
        exact mStep_call rfl (by simp [execOp, resolve, e0, e1]; rfl) (HSm g1 c1 g2 c2 wx h2 h4)
      · intro a' he wx hb hd
        have e0 : a'.eval (.tmp 22) = .bool true := hd 4 rfl _ _ rfl rfl
        exact mStep_read rfl (by simp [execOp, e0]) rfl
      · intro a' he wx hb hd
        exact mStep_call_on rfl rfl rfl (hd 5 rfl _ _ rfl rfl) (by simp [execOp, resolve]; rfl) (HK wx (hBx wx hb))
      · intro a' he wx hb hd
        have e0 : a'.eval (.tmp 23) = .bool true := hd 5 rfl _ _ rfl rfl
        have e1 : a'.eval (.tmp 24) = .bool true := hd 6 rfl _ _ rfl rfl
        refine mStep_read rfl ?_ rfl
        simp only [execOp, e0, e1]
        go_simp
      · intro a' he wx hb hd
        have e0 : a'.eval (.tmp 25) = .bool true := hd 7 rfl _ _ rfl rfl
        exact mStep_read rfl (by simp [execOp, e0]) rfl
    case fin =>
      rintro wx hb _ rfl u19 p19 _ rfl u21 p21 _ rfl _ rfl _ rfl _ rfl _ rfl
      simp only [finV, Act.put, List.setIfInBounds_toArray, List.set_cons_succ, List.set_cons_zero, List.drop_succ_cons, List.drop_zero]
      have hb5 : Below w1.heap.size w1 wx := ⟨hb.os, hb.tape, hb.output, hb.size, hb.block⟩
      have B6 := HB1.out.trans (hb5.mono HB1.out.size)
      clear HS HR HSm HK HD4 hD4 HB1 hb hb5
      go_wp2_with fail
      go_ret
      exact ⟨rfl, B6⟩
end Go.Proofs.YtplmmamebfpcjaaGreatDoor
end
