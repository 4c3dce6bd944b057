/- recipe's valueOf, isScalar, isRune; strings.HasPrefix, TrimPrefix; slices.Contains of texts: their contracts. -/
import Derived.Test.YtonbfcpbgkpbaaaQLib2
import Derived.Lib.SmallJoins
import Derived.Below
import Derived.Lib.UnsafeStr
namespace Go.Proofs.Ytonbfcpbgkpbaaa
open Go.RowKit Go.Joins
set_option linter.unusedVariables false
set_option maxRecDepth 100000
theorem valF_snoc (b n : Nat) (l : List UInt8) (c : UInt8) : valF b n (l ++ [c]) = valF b n l * b + digV c := by
  induction l generalizing n with
  | nil => rfl
  | cons x l ih => exact ih _
theorem valF_lt {b : Nat} (hb : b ≤ 16) : ∀ (l : List UInt8) (n : Nat), (∀ c ∈ l, capB c = true) → valF b n l + 1 ≤ (n + 1) * 16 ^ l.length := by
  intro l
  induction l with
  | nil => intro n _; simp [valF]
  | cons x l ih =>
    intro n h
    have h1 := ih (n * b + digV x) (fun c hc => h c (List.mem_cons_of_mem _ hc))
    have h2 := digV_lt (.inr (h x List.mem_cons_self))
    have h3 : n * b ≤ n * 16 := Nat.mul_le_mul_left _ hb
    have h4 : (n * b + digV x + 1) * 16 ^ l.length ≤ ((n + 1) * 16) * 16 ^ l.length := Nat.mul_le_mul_right _ (by omega)
    have h5 : (n + 1) * 16 ^ (x :: l).length = ((n + 1) * 16) * 16 ^ l.length := by rw [List.length_cons, Nat.pow_succ, Nat.mul_comm (16 ^ l.length) 16, Nat.mul_assoc]
    rw [h5]
    exact Nat.le_trans h1 h4
theorem valF_small {b : Nat} (hb : b ≤ 16) {l : List UInt8} (h : ∀ c ∈ l, capB c = true) (hl : l.length ≤ 10) : valF b 0 l < 1099511627776 := by
  have h1 := valF_lt hb l 0 h
  have h2 : 16 ^ l.length ≤ 16 ^ 10 := Nat.pow_le_pow_right (by decide) hl
  have h3 : 16 ^ 10 = 1099511627776 := by decide
  omega
theorem valF_six {b : Nat} (hb : b ≤ 16) {l : List UInt8} (h : ∀ c ∈ l, capB c = true) (hl : l.length ≤ 6) : valF b 0 l < 16777216 := by
  have h1 := valF_lt hb l 0 h
  have h2 : 16 ^ l.length ≤ 16 ^ 6 := Nat.pow_le_pow_right (by decide) hl
  have h3 : 16 ^ 6 = 16777216 := by decide
  omega
theorem bytesWorld_below (w : World) (s : ByteArray) : Below w.heap.size w (Lib.bytesWorld w 5 s) :=
  Lib.below_freeze (((Below.refl w.heap.size w).drew).alloc (Nat.le_refl _) _) (p := ⟨w.heap.size, (Lib.bytesCells w 5 s).size, none⟩) (Nat.le_refl _) 1
set_option maxHeartbeats 1000000 in
theorem valueOf_any (s : ByteArray) (base : Nat) (hb : base ≤ 16) (hl : s.size ≤ 10) (hc : ∀ c ∈ tl s, capB c = true) (w : World) :
    Calls Try.prog 47 #[.string s, .int .i64 (base : Nat)] w fun e w' => e = .returned (.int .i64 (valF base 0 (tl s) : Nat)) ∧ Below w.heap.size w w' := by
  have hcv := Lib.run_convert_string_bytes (P := Try.prog) w 9 62 5 s Try.underlying9 Try.underlying62 Try.underlying5
  have hcell := Lib.bytesWorld_cell w 5 s
  have hbl := bytesWorld_below w s
  obtain ⟨W, hW⟩ : ∃ W, W = Lib.bytesWorld w 5 s := ⟨_, rfl⟩
  rw [← hW] at hcv hcell hbl
  obtain ⟨z, hz⟩ : ∃ z, z = w.heap.size := ⟨_, rfl⟩
  rw [← hz] at hcv hcell
  have HC := Lib.hid hcell
  clear hW hcell hz
  go_enter Try.func47, Try.ntmps47
  go_wp2_with fail
  go_loop [5, 11] (fun n i => ∃ k : Nat, k ≤ s.size ∧ i = .int .i64 (k : Nat) ∧ n = .int .i64 (valF base 0 ((tl s).take k) : Nat)) (fun _ i => s.size - (intOf i).toNat)
  case atStart => exact ⟨0, Nat.zero_le _, rfl, rfl⟩
  case round =>
    obtain ⟨k, hk, rfl, rfl⟩ := hrel
    by_cases hlt : k < s.size
    · have hkl : k < (tl s).length := by simpa using hlt
      have hs : (tl s).take (k + 1) = (tl s).take k ++ [(tl s)[k]] := by rw [List.take_succ_eq_append_getElem hkl]
      have hcap : capB ((tl s)[k]) = true := hc _ (List.getElem_mem hkl)
      have ck := HC.out k hlt
      rw [show s.data.toList.getD k 0 = (tl s)[k] by simp [List.getD, hlt]] at ck
      have HI := fun wx => index_cap ((tl s)[k]) hcap wx
      have hv := valF_small (b := base) hb (l := (tl s).take k) (fun c hcc => hc c (List.mem_of_mem_take hcc)) (by simp; omega)
      have hd := digV_lt (.inr hcap)
      have hb8 : ((tl s)[k]).toNat < 256 := UInt8.toNat_lt _
      have hsn : valF base 0 ((tl s).take (k + 1)) = valF base 0 ((tl s).take k) * base + digV ((tl s)[k]) := by rw [hs, valF_snoc]
      obtain ⟨v, hvv⟩ : ∃ v, v = valF base 0 ((tl s).take k) := ⟨_, rfl⟩
      rw [← hvv] at hv hsn
      have hvb : v * base ≤ 1099511627776 * 16 := Nat.mul_le_mul (by omega) hb
      have hvi : (v : Int) * (base : Int) = ((v * base : Nat) : Int) := by simp
      obtain ⟨vb, hvb2⟩ : ∃ vb, vb = v * base := ⟨_, rfl⟩
      rw [← hvb2] at hvb hvi hsn
      have HVI := Lib.hid hvi
      have HSN := Lib.hid hsn
      obtain ⟨c, hcc⟩ : ∃ c, c = (tl s)[k] := ⟨_, rfl⟩
      rw [← hcc] at ck HI hd hb8
      have HCC := Lib.hid hcc
      rw [← hvv]
      have hw1 : ((v : Int) * (base : Int)) ≤ 17592186044416 := by rw [hvi]; omega
      have hw0 : 0 ≤ ((v : Int) * (base : Int)) := by rw [hvi]; omega
      clear hs hcap hvv hvb2 hvi hsn hcc
      go_wp2_with fail
      refine (HI _).mono ?_
      rintro e w1 ⟨rfl, rfl⟩
      go_wp2_with fail
      go_round
      case rel => exact ⟨k + 1, by omega, by go_num, by rw [HSN.out, ← HCC.out]; have := HVI.out; go_num⟩
      case measure => simp [intOf]; omega
    · have hkk : k = s.size := by omega
      subst hkk
      have hE : Hid ((tl s).take s.size = tl s) := Lib.hid (List.take_of_length_le (by simp))
      go_wp2_with fail
      go_ret
      exact ⟨by rw [hE.out]; rfl, hbl⟩
end Go.Proofs.Ytonbfcpbgkpbaaa
