/- recipe's isScalar, isRune; strings.HasPrefix, TrimPrefix; slices.Contains of texts: their contracts. -/
import Derived.Test.YtonbfcpbgkpbaaaQLib3
namespace Go.Proofs.Ytonbfcpbgkpbaaa
open Go.RowKit Go.Joins
set_option linter.unusedVariables false
set_option maxRecDepth 100000
theorem scalar_any (n : Int) (h0 : 0 ≤ n) (w : World) :
    Calls Try.prog 80 #[.int .i32 n] w fun e w' => e = .returned (.bool (decide (n ≤ 55295) || (decide (57344 ≤ n) && decide (n ≤ 1114111)))) ∧ w' = w := by
  have d0 : decide (0 ≤ n) = true := decide_eq_true h0
  by_cases h1 : n ≤ 55295
  · have d1 : decide (n ≤ 55295) = true := decide_eq_true h1
    rw [d1]
    go_enter Try.func80, Try.ntmps80
    go_wp2_with fail
    go_ret
    exact ⟨rfl, rfl⟩
  · have d1 : decide (n ≤ 55295) = false := decide_eq_false h1
    by_cases h2 : 57344 ≤ n
    · have d2 : decide (57344 ≤ n) = true := decide_eq_true h2
      rw [d1, d2]
      go_enter Try.func80, Try.ntmps80
      go_wp2_with fail
      go_ret
      exact ⟨rfl, rfl⟩
    · have d2 : decide (57344 ≤ n) = false := decide_eq_false h2
      rw [d1, d2]
      go_enter Try.func80, Try.ntmps80
      go_wp2_with fail
      go_ret
      exact ⟨rfl, rfl⟩
theorem scalar_nat (n : Nat) (w : World) :
    Calls Try.prog 80 #[.int .i32 (n : Nat)] w fun e w' => e = .returned (.bool (scalarB n)) ∧ w' = w := by
  have h := scalar_any (n : Int) (by omega) w
  have e : scalarB n = (decide ((n : Int) ≤ 55295) || (decide (57344 ≤ (n : Int)) && decide ((n : Int) ≤ 1114111))) := by
    unfold scalarB
    rw [Bool.eq_iff_iff]; simp; omega
  rw [e]
  exact h
theorem litePre_any (s p : ByteArray) (hs : s.size ≤ 9223372036854775807) (w : World) :
    Calls Try.prog 88 #[.string s, .string p] w fun e w' => e = .returned (.bool (decide (p.size ≤ s.size) && ((s.extract 0 p.size).toList == p.toList))) ∧ w' = w := by
  by_cases h : p.size ≤ s.size
  · have d : decide (p.size ≤ s.size) = true := decide_eq_true h
    have hs : p.size ≤ 9223372036854775807 := by omega
    rw [d]
    go_enter Try.func88, Try.ntmps88
    go_wp2_with fail
    go_ret
    exact ⟨rfl, rfl⟩
  · have d : decide (p.size ≤ s.size) = false := decide_eq_false h
    rw [d]
    go_enter Try.func88, Try.ntmps88
    go_wp2_with fail
    go_ret
    exact ⟨rfl, rfl⟩
def preB (s p : ByteArray) : Bool := decide (p.size ≤ s.size) && ((s.extract 0 p.size).toList == p.toList)
theorem preB_iff (s p : ByteArray) : preB s p = true ↔ (tl s).take p.size = tl p := by
  unfold preB
  rw [Bool.and_eq_true, decide_eq_true_eq, beq_iff_eq]
  rw [Lib.toList_data, Lib.toList_data]
  constructor
  · rintro ⟨h1, h2⟩
    simpa using h2
  · intro h
    have h1 : p.size ≤ s.size := by
      have := congrArg List.length h
      simp at this
      omega
    refine ⟨h1, ?_⟩
    simpa using h
theorem prefix_any (s p : ByteArray) (hs : s.size ≤ 9223372036854775807) (w : World) :
    Calls Try.prog 79 #[.string s, .string p] w fun e w' => e = .returned (.bool (preB s p)) ∧ w' = w := by
  have H := litePre_any s p hs
  rw [show (decide (p.size ≤ s.size) && ((s.extract 0 p.size).toList == p.toList)) = preB s p from rfl] at H
  go_enter Try.func79, Try.ntmps79
  go_wp2_with fail
  refine (H _).mono ?_
  rintro e w1 ⟨rfl, rfl⟩
  go_wp2_with fail
  go_ret
  exact ⟨rfl, rfl⟩
def trimB (s p : ByteArray) : ByteArray := if preB s p = true then s.extract p.size s.size else s
theorem liteTrim_any (s p : ByteArray) (hs : s.size ≤ 9223372036854775807) (w : World) :
    Calls Try.prog 90 #[.string s, .string p] w fun e w' => e = .returned (.string (trimB s p)) ∧ w' = w := by
  have H := litePre_any s p hs
  rw [show (decide (p.size ≤ s.size) && ((s.extract 0 p.size).toList == p.toList)) = preB s p from rfl] at H
  unfold trimB
  by_cases h : preB s p = true
  · have h1 : p.size ≤ s.size := by
      unfold preB at h
      rw [Bool.and_eq_true, decide_eq_true_eq] at h
      exact h.1
    rw [if_pos h]
    rw [h] at H
    clear h
    go_enter Try.func90, Try.ntmps90
    go_wp2_with fail
    refine (H _).mono ?_
    rintro e w1 ⟨rfl, rfl⟩
    go_wp2_with fail
    go_ret
    exact ⟨rfl, rfl⟩
  · rw [if_neg h]
    have h : preB s p = false := by simpa using h
    rw [h] at H
    clear h
    go_enter Try.func90, Try.ntmps90
    go_wp2_with fail
    refine (H _).mono ?_
    rintro e w1 ⟨rfl, rfl⟩
    go_wp2_with fail
    go_ret
    exact ⟨rfl, rfl⟩
theorem trim_any (s p : ByteArray) (hs : s.size ≤ 9223372036854775807) (w : World) :
    Calls Try.prog 82 #[.string s, .string p] w fun e w' => e = .returned (.string (trimB s p)) ∧ w' = w := by
  have H := liteTrim_any s p hs
  go_enter Try.func82, Try.ntmps82
  go_wp2_with fail
  refine (H _).mono ?_
  rintro e w1 ⟨rfl, rfl⟩
  go_wp2_with fail
  go_ret
  exact ⟨rfl, rfl⟩
set_option maxHeartbeats 1000000 in
theorem isRune_any (s : ByteArray) (hs : s.size ≤ 9223372036854775807) (hc : ∀ c ∈ tl s, capB c = true) (w : World) :
    Calls Try.prog 67 #[.string s] w fun e w' => e = .returned (.bool (runeDB (tl s))) ∧ Below w.heap.size w w' := by
  have HR : Hid (runeDB (tl s) = (decide (4 ≤ s.size) && decide (s.size ≤ 6) && (decide (s.size ≤ 4) || ((tl s).headD 0).toNat != 48) && scalarB (valF 16 0 (tl s)))) := Lib.hid (by unfold runeDB; rw [tl_len])
  by_cases h4 : s.size < 4
  · have HB : Hid (runeDB (tl s) = false) := Lib.hid (by rw [HR.out, show decide (4 ≤ s.size) = false from decide_eq_false (by omega)]; rfl)
    rw [HB.out]
    have d : decide ((s.size : Int) < 4) = true := decide_eq_true (by omega)
    go_enter Try.func67, Try.ntmps67
    go_wp2_with fail
    go_ret
    exact ⟨rfl, Below.refl _ _⟩
  · have d : decide ((s.size : Int) < 4) = false := decide_eq_false (by omega)
    have e4 : decide (4 ≤ s.size) = true := decide_eq_true (by omega)
    by_cases h6 : 6 < s.size
    · have HB : Hid (runeDB (tl s) = false) := Lib.hid (by rw [HR.out, show decide (s.size ≤ 6) = false from decide_eq_false (by omega)]; simp)
      rw [HB.out]
      have d6 : decide ((s.size : Int) > 6) = true := decide_eq_true (by omega)
      have d7 : decide ((6 : Int) < (s.size : Int)) = true := decide_eq_true (by omega)
      clear e4
      go_enter Try.func67, Try.ntmps67
      go_wp2_with fail
      go_ret
      exact ⟨rfl, Below.refl _ _⟩
    · have d7 : decide ((6 : Int) < (s.size : Int)) = false := decide_eq_false (by omega)
      have e6 : decide (s.size ≤ 6) = true := decide_eq_true (by omega)
      have hv := valF_six (b := 16) (by omega) hc (by rw [tl_len]; omega)
      have HV := fun wx => valueOf_any s 16 (by omega) (by omega) hc wx
      have HS := fun wx => scalar_nat (valF 16 0 (tl s)) wx
      obtain ⟨v, hvv⟩ : ∃ v, v = valF 16 0 (tl s) := ⟨_, rfl⟩
      rw [← hvv] at hv HV HS
      have hw : wrap32 (v : Int) = (v : Int) := by unfold wrap32; omega
      have HVV := Lib.hid hvv
      clear hvv
      by_cases h5 : 4 < s.size
      · have d5 : decide ((4 : Int) < (s.size : Int)) = true := decide_eq_true (by omega)
        have e5 : decide (s.size ≤ 4) = false := decide_eq_false (by omega)
        have hh : ((tl s).headD 0).toNat = (s[0]'(by omega)).toNat := by
          have hl : 0 < (tl s).length := by simp; omega
          cases ht : tl s with
          | nil => rw [ht] at hl; simp at hl
          | cons a l =>
            have : s[0]'(by omega) = (tl s)[0] := rfl
            rw [this]
            simp [ht]
        by_cases hz : (s[0]'(by omega)).toNat = 48
        · have HB : Hid (runeDB (tl s) = false) := Lib.hid (by rw [HR.out, e5, hh, hz]; simp)
          rw [HB.out]
          have hzz : (((s[0]'(by omega)).toNat : Int) == 48) = true := by simp [hz]
          clear e4 e6 e5 hh hz
          go_enter Try.func67, Try.ntmps67
          go_wp2_with fail
          go_ret
          exact ⟨rfl, Below.refl _ _⟩
        · have HB : Hid (runeDB (tl s) = scalarB v) := Lib.hid (by rw [HR.out, e5, e4, e6, hh, HVV.out]; simp [hz])
          rw [HB.out]
          have hzz : (((s[0]'(by omega)).toNat : Int) == 48) = false := by simp; omega
          clear e4 e6 e5 hh hz
          go_enter Try.func67, Try.ntmps67
          go_wp2_with fail
          refine (HV _).mono ?_
          rintro e w1 ⟨rfl, hb⟩
          go_wp2_with fail
          refine (HS _).mono ?_
          rintro e w2 ⟨rfl, rfl⟩
          go_wp2_with fail
          go_ret
          exact ⟨rfl, hb⟩
      · have d5 : decide ((4 : Int) < (s.size : Int)) = false := decide_eq_false (by omega)
        have e5 : decide (s.size ≤ 4) = true := decide_eq_true (by omega)
        have HB : Hid (runeDB (tl s) = scalarB v) := Lib.hid (by rw [HR.out, e5, e4, e6, HVV.out]; simp)
        rw [HB.out]
        clear e4 e6 e5
        go_enter Try.func67, Try.ntmps67
        go_wp2_with fail
        refine (HV _).mono ?_
        rintro e w1 ⟨rfl, hb⟩
        go_wp2_with fail
        refine (HS _).mono ?_
        rintro e w2 ⟨rfl, rfl⟩
        go_wp2_with fail
        go_ret
        exact ⟨rfl, hb⟩
end Go.Proofs.Ytonbfcpbgkpbaaa
