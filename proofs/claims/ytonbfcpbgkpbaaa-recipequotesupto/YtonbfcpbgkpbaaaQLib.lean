/- strings.IndexByte, HasPrefix, TrimPrefix; recipe's predicates of bytes: their contracts. -/
import Derived.Test.YtonbfcpbgkpbaaaQMath
import Derived.Test.YtonbfcpbgkpbaaaUScope
import Derived.Lib.Walk
import Derived.Lib.Strings
import Derived.Lib.Bytealg
import Derived.Lib.ConvBytes
import Derived.Lib.Hide
namespace Go.Proofs.Ytonbfcpbgkpbaaa
open Go.RowKit
set_option linter.unusedVariables false
set_option maxRecDepth 100000
set_option maxHeartbeats 1000000 in
theorem liteIndex_any (s : ByteArray) (c : Int) (w : World) :
    Calls Try.prog 83 #[.string s, .int .u8 c] w fun e w' => e = .returned (.int .i64 (Lib.indexByte s.data.toList c.toNat.toUInt8)) ∧ w' = w := by
  go_enter Try.func83, Try.ntmps83
  go_wp2
  rw [run_callFunc_extern Try.func91 (by kernel_rfl) (by kernel_rfl) (by kernel_rfl) (e := Extern.BytealgIndexByte.indexByte) (by kernel_rfl), Lib.run_indexByteString]
  simp only [Result.andThen]
  rw [Oper.upon_value]
  go_wp2
  go_ret
  exact ⟨rfl, rfl⟩
theorem indexByte_any (s : ByteArray) (c : Int) (w : World) :
    Calls Try.prog 71 #[.string s, .int .u8 c] w fun e w' => e = .returned (.int .i64 (Lib.indexByte s.data.toList c.toNat.toUInt8)) ∧ w' = w := by
  go_enter Try.func71, Try.ntmps71
  go_wp2_with (go_at_call 83; refine (liteIndex_any _ _ _).mono ?_; rintro e w' ⟨rfl, rfl⟩)
  go_ret
  exact ⟨rfl, rfl⟩
/-- What is read at a place: -1 behind the end. -/
def hereI (l : List UInt8) (k : Nat) : Int := match l[k]? with
  | none => -1
  | some c => (c.toNat : Int)
def oneI (c : Int) (s : ByteArray) : Bool := !(c == -1) && decide (0 ≤ Lib.indexByte s.data.toList c.toNat.toUInt8)
theorem isOneOf_any (c : Int) (s : ByteArray) (hc : -1 ≤ c) (hc2 : c ≤ 255) (w : World) :
    Calls Try.prog 66 #[.int .i64 c, .string s] w fun e w' => e = .returned (.bool (oneI c s)) ∧ w' = w := by
  unfold oneI
  by_cases h : c = -1
  · subst h
    go_enter Try.func66, Try.ntmps66
    go_wp2_with fail
    go_ret
    exact ⟨rfl, rfl⟩
  · have h1 : (c == -1) = false := by simpa using h
    have h2 : (c != -1) = true := by simpa using h
    have h3 : 0 ≤ c := by omega
    rw [h1]
    go_enter Try.func66, Try.ntmps66
    go_wp2_with (go_at_call 71; refine (indexByte_any _ _ _).mono ?_; rintro e w' ⟨rfl, rfl⟩)
    go_ret
    exact ⟨rfl, rfl⟩
theorem isSmall_any (c : Int) (w : World) :
    Calls Try.prog 63 #[.int .i64 c] w fun e w' => e = .returned (.bool (decide (97 ≤ c) && decide (c ≤ 122))) ∧ w' = w := by
  by_cases h : 97 ≤ c
  · have h1 : decide (97 ≤ c) = true := decide_eq_true h
    rw [h1]
    go_enter Try.func63, Try.ntmps63
    go_wp2_with fail
    go_ret
    exact ⟨rfl, rfl⟩
  · have h1 : decide (97 ≤ c) = false := decide_eq_false h
    rw [h1]
    go_enter Try.func63, Try.ntmps63
    go_wp2_with fail
    go_ret
    exact ⟨rfl, rfl⟩
theorem isDigit_any (c : Int) (w : World) :
    Calls Try.prog 64 #[.int .i64 c] w fun e w' => e = .returned (.bool (decide (48 ≤ c) && decide (c ≤ 57))) ∧ w' = w := by
  by_cases h : 48 ≤ c
  · have h1 : decide (48 ≤ c) = true := decide_eq_true h
    rw [h1]
    go_enter Try.func64, Try.ntmps64
    go_wp2_with fail
    go_ret
    exact ⟨rfl, rfl⟩
  · have h1 : decide (48 ≤ c) = false := decide_eq_false h
    rw [h1]
    go_enter Try.func64, Try.ntmps64
    go_wp2_with fail
    go_ret
    exact ⟨rfl, rfl⟩
theorem isShown_any (c : Int) (w : World) :
    Calls Try.prog 19 #[.int .i64 c] w fun e w' => e = .returned (.bool (decide (32 ≤ c) && decide (c ≤ 126))) ∧ w' = w := by
  by_cases h : 32 ≤ c
  · have h1 : decide (32 ≤ c) = true := decide_eq_true h
    rw [h1]
    go_enter Try.func19, Try.ntmps19
    go_wp2_with fail
    go_ret
    exact ⟨rfl, rfl⟩
  · have h1 : decide (32 ≤ c) = false := decide_eq_false h
    rw [h1]
    go_enter Try.func19, Try.ntmps19
    go_wp2_with fail
    go_ret
    exact ⟨rfl, rfl⟩
def onI (c : Int) : Bool := (decide (97 ≤ c) && decide (c ≤ 122)) || (decide (65 ≤ c) && decide (c ≤ 90)) || (decide (48 ≤ c) && decide (c ≤ 57)) || (c == 95)
set_option maxHeartbeats 1000000 in
theorem goesOn_any (c : Int) (w : World) :
    Calls Try.prog 68 #[.int .i64 c] w fun e w' => e = .returned (.bool (onI c)) ∧ w' = w := by
  have H1 := fun wx => isSmall_any c wx
  have H2 := fun wx => isDigit_any c wx
  have HO : Hid (onI c = ((decide (97 ≤ c) && decide (c ≤ 122)) || (decide (65 ≤ c) && decide (c ≤ 90)) || (decide (48 ≤ c) && decide (c ≤ 57)) || (c == 95))) := rfl
  obtain ⟨bS, hS⟩ : ∃ b, b = (decide (97 ≤ c) && decide (c ≤ 122)) := ⟨_, rfl⟩
  obtain ⟨bD, hD⟩ : ∃ b, b = (decide (48 ≤ c) && decide (c ≤ 57)) := ⟨_, rfl⟩
  rw [← hS] at H1
  rw [← hD] at H2
  have HS := Lib.hid hS
  have HD := Lib.hid hD
  clear hS hD
  cases bS with
  | true =>
    go_enter Try.func68, Try.ntmps68
    go_wp2_with fail
    refine (H1 _).mono ?_
    rintro e w1 ⟨rfl, rfl⟩
    go_wp2_with fail
    go_ret
    exact ⟨by rw [HO.out, ← HS.out]; rfl, rfl⟩
  | false =>
    by_cases h1 : 65 ≤ c
    · by_cases h2 : c ≤ 90
      · have d1 : decide (65 ≤ c) = true := decide_eq_true h1
        have d2 : decide (c ≤ 90) = true := decide_eq_true h2
        have HB : Hid (onI c = true) := Lib.hid (by rw [HO.out, d1, d2]; simp)
        go_enter Try.func68, Try.ntmps68
        go_wp2_with fail
        refine (H1 _).mono ?_
        rintro e w1 ⟨rfl, rfl⟩
        go_wp2_with fail
        go_ret
        exact ⟨by rw [HB.out]; rfl, rfl⟩
      · have d1 : decide (65 ≤ c) = true := decide_eq_true h1
        have d2 : decide (c ≤ 90) = false := decide_eq_false h2
        have HB : Hid (onI c = (bD || (c == 95))) := Lib.hid (by rw [HO.out, d1, d2, ← HS.out, ← HD.out]; simp)
        cases bD with
        | true =>
          go_enter Try.func68, Try.ntmps68
          go_wp2_with fail
          refine (H1 _).mono ?_
          rintro e w1 ⟨rfl, rfl⟩
          go_wp2_with fail
          refine (H2 _).mono ?_
          rintro e w1 ⟨rfl, rfl⟩
          go_wp2_with fail
          go_ret
          exact ⟨by rw [HB.out]; rfl, rfl⟩
        | false =>
          go_enter Try.func68, Try.ntmps68
          go_wp2_with fail
          refine (H1 _).mono ?_
          rintro e w1 ⟨rfl, rfl⟩
          go_wp2_with fail
          refine (H2 _).mono ?_
          rintro e w1 ⟨rfl, rfl⟩
          go_wp2_with fail
          go_ret
          exact ⟨by rw [HB.out]; rfl, rfl⟩
    · have d1 : decide (65 ≤ c) = false := decide_eq_false h1
      have HB : Hid (onI c = (bD || (c == 95))) := Lib.hid (by rw [HO.out, d1, ← HS.out, ← HD.out]; simp)
      cases bD with
      | true =>
        go_enter Try.func68, Try.ntmps68
        go_wp2_with fail
        refine (H1 _).mono ?_
        rintro e w1 ⟨rfl, rfl⟩
        go_wp2_with fail
        refine (H2 _).mono ?_
        rintro e w1 ⟨rfl, rfl⟩
        go_wp2_with fail
        go_ret
        exact ⟨by rw [HB.out]; rfl, rfl⟩
      | false =>
        go_enter Try.func68, Try.ntmps68
        go_wp2_with fail
        refine (H1 _).mono ?_
        rintro e w1 ⟨rfl, rfl⟩
        go_wp2_with fail
        refine (H2 _).mono ?_
        rintro e w1 ⟨rfl, rfl⟩
        go_wp2_with fail
        go_ret
        exact ⟨by rw [HB.out]; rfl, rfl⟩
end Go.Proofs.Ytonbfcpbgkpbaaa
