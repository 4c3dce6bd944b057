/- recipe's meaning: the closure that tells a word's id. -/
import Derived.Test.YtonbfcpbgkpbaaaQMap
namespace Go.Proofs.Ytonbfcpbgkpbaaa
open Go.RowKit Go.Sort Go.Joins
set_option linter.unusedVariables false
set_option maxRecDepth 100000
theorem idOfP_one (made : List (List UInt8 × Nat)) (c : UInt8) : idOfP made [c] = some c.toNat := rfl
theorem idOfP_more (made : List (List UInt8 × Nat)) {s : List UInt8} (h : s.length ≠ 1) : idOfP made s = FM made (textOf s) := by
  unfold idOfP FM
  cases s with
  | nil => rfl
  | cons a s => cases s with
    | nil => simp at h
    | cons b s => rfl
set_option maxHeartbeats 1000000 in
theorem idOf_any (cb mb n : Nat) (made : List (List UInt8 × Nat)) (s : List UInt8) (w : World) (hs : s.length ≤ 4611686018427387904) (hM : MapS w mb n (FM made)) (hc : w.cell? ⟨cb, 0, none⟩ = some (.map (some mb))) :
    Calls Try.prog 45 #[.string (textOf s), .pointer (some ⟨cb, 0, none⟩)] w fun e w' => e = .returned (.tuple #[.int .i64 (((idOfP made s).getD 0 : Nat) : Int), .bool (idOfP made s).isSome]) ∧ w' = w := by
  have hz : (textOf s).size = s.length := by simp [textOf, ByteArray.size]
  by_cases h1 : s.length = 1
  · obtain ⟨c, rfl⟩ : ∃ c, s = [c] := List.length_eq_one_iff.1 h1
    have h0 : (((textOf [c]).size : Int) == 1) = true := by rw [hz]; rfl
    have hb := UInt8.toNat_lt c
    rw [idOfP_one]
    have hx : ∀ wx : World, (Instr.index 9 (.string (textOf [c])) (.int .i64 0)).run Try.prog wx = .ok (.int .u8 (c.toNat : Nat)) wx := fun wx => by kernel_rfl
    generalize textOf [c] = x at *
    go_enter Try.func45, Try.ntmps45
    go_wp2_with fail
    exact bodyPost_ret (v := .tuple #[.int .i64 (c.toNat : Nat), .bool true]) (by simp [results, Try.results45, go_sem]) rfl ⟨rfl, rfl⟩
  · have h0 : (((textOf s).size : Int) == 1) = false := by rw [hz]; simp; omega
    have hk := keyS (textOf s) (by omega)
    have hl := hM.look (t := 101) Try.underlying101 hk
    rw [idOfP_more made h1]
    generalize FM made (textOf s) = r at *
    generalize textOf s = x at *
    go_enter Try.func45, Try.ntmps45
    go_wp2_with fail
    exact bodyPost_ret (v := .tuple #[.int .i64 ((r.getD 0 : Nat) : Int), .bool r.isSome]) (by simp [results, Try.results45, go_sem]) rfl ⟨rfl, rfl⟩
end Go.Proofs.Ytonbfcpbgkpbaaa
