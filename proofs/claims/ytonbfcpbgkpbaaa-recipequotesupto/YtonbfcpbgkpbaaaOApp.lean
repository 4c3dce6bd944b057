/- Appending bytes to bytes: what a run leaves. -/
import Derived.Test.YtonbfcpbgkpbaaaOOwn
import Derived.Test.YtonbfcpbgkpbaaaAppRun
import Derived.Lib.AppendStr
import Derived.WalkSpells
import Derived.WalkLawsBesides
namespace Go.Proofs.Ytonbfcpbgkpbaaa.Oc
set_option maxRecDepth 100000
open Go.RowKit
open Go.Joins
/-- The value v owns the bytes l, in memory from block 'base' on. -/
def OwnS (w : World) (base : Nat) (v : Value) (l : List UInt8) : Prop := w.ownsRow base 5 1 v l.length (cellsOf l)
theorem OwnS.below {w w' : World} {base : Nat} {v : Value} {l : List UInt8} {B : Nat} (h : OwnS w base v l) (hb : Below B w w') (hB : w.heap.size ≤ B) : OwnS w' base v l := by
  refine ⟨h.1, ?_⟩
  rcases h.2 with h0 | ⟨g, cap, cur, hv, hg, hh, r⟩
  · exact .inl h0
  · refine .inr ⟨g, cap, cur, hv, hg, ?_, r⟩
    rw [hb.block g (Nat.lt_of_lt_of_le (Array.getElem?_eq_some_iff.1 hh).1 hB)]
    exact hh
theorem OwnS.form {w : World} {base : Nat} {v : Value} {l : List UInt8} (h : OwnS w base v l) (hl : 0 < l.length) :
    ∃ g cap, v = .slice (some ⟨g, 0, none⟩) l.length cap ∧ base ≤ g ∧ g < w.heap.size ∧ l.length ≤ cap ∧ cap ≤ 9223372036854775807 ∧ BS w (some ⟨g, 0, none⟩) l := by
  rcases h.2 with ⟨_, h0⟩ | ⟨g, cap, cur, hv, hg, hh, hn, hm, _, ht⟩
  · omega
  · refine ⟨g, cap, hv, hg, (Array.getElem?_eq_some_iff.1 hh).1, hn, by simpa [maxLen] using hm, .inr ⟨g, 0, rfl, fun j hj => ?_⟩⟩
    subst hv
    rw [Nat.zero_add, World.ownsRow.cellAt h j (by omega)]
    exact cellsOf_get l j hj
theorem BS.cells {w : World} {x : Addr} {l : List UInt8} (h : BS w (some x) l) : ∀ j u, (cellsOf l)[j]? = some u → w.cell? (x.add j) = some u := by
  intro j u hu
  rcases h with rfl | ⟨b, off, hx, hc⟩
  · simp [cellsOf] at hu
  · obtain rfl := Option.some.inj hx
    have hj : j < l.length := by
      rcases Nat.lt_or_ge j l.length with h | h
      · exact h
      · rw [List.getElem?_eq_none (by rw [cellsOf_length]; exact h)] at hu; cases hu
    rw [cellsOf_get l j hj] at hu
    rw [cell_add, hc j hj]; exact hu
/-- Onto what is owned: bytes. -/
theorem run_own_bytes (W : World) (base : Nat) (v : Value) (l r : List UInt8) (a : Option Addr) (cap : Nat) (hown : OwnS W base v l) (h : BS W a r) (hnil : a = none → cap = 0) (hb : base ≤ W.heap.size)
    (hsz : l.length + r.length ≤ 140737488355328) :
    ∃ v' w', (Builtin.append_ #[62, 62] 62 #[v, .slice a r.length cap]).run Try.prog W = .ok v' w' ∧ OwnS w' base v' (l ++ r) ∧ Below base W w' := by
  obtain ⟨i0, hi, hz0, hz1, hz2⟩ := info_parts info5
  cases a with
  | none =>
    have hr : r = [] := by
      rcases h with h | ⟨b, off, h, _⟩
      · exact h
      · cases h
    subst hr
    rw [hnil rfl]
    exact ⟨v, W, run_append_owned_none (P := Try.prog) W base 62 62 5 i0 1 Try.underlying62 hi v _ _ hown, by rw [List.append_nil]; exact hown, Below.refl _ _⟩
  | some x =>
    obtain ⟨v', w', h1, h2, h3, _⟩ := run_append_own (P := Try.prog) W base 62 62 5 i0 (.int .u8 0) 1 1 Try.underlying62 hi hz0 hz1 hz2 rfl (by decide) v l.length (cellsOf l) hown x r.length cap (cellsOf r) (by rw [cellsOf_length, Nat.mul_one]) h.cells (cellsOf_one r) (by unfold maxLen; omega) (by omega) hb
    refine ⟨v', w', h1, ?_, (Below.refl base W).grown h3 hb (fun k hk => (hown.lt k hk).1)⟩
    unfold OwnS
    rw [List.length_append, cellsOf_append]
    exact h2
/-- Onto what is owned: a text. -/
theorem run_own_text (W : World) (base : Nat) (v : Value) (l : List UInt8) (s : ByteArray) (hown : OwnS W base v l) (hb : base ≤ W.heap.size) (hsz : l.length + s.size ≤ 140737488355328) :
    ∃ v' w', (Builtin.append_ #[62, 9] 62 #[v, .string s]).run Try.prog W = .ok v' w' ∧ OwnS w' base v' (l ++ s.data.toList) ∧ Below base W w' := by
  obtain ⟨i0, hi, hz0, hz1, hz2⟩ := info_parts info5
  obtain ⟨v', w', h1, h2, h3, _⟩ := Lib.run_append_own_string (P := Try.prog) W base 62 9 62 5 i0 Try.underlying62 Try.underlying9 hi hz0 hz1 hz2 v l.length (cellsOf l) hown s (by unfold maxLen; omega) (by omega) hb
  refine ⟨v', w', h1, ?_, (Below.refl base W).grown h3 hb (fun k hk => (hown.lt k hk).1)⟩
  unfold OwnS
  rw [List.length_append, cellsOf_append, show s.data.toList.length = s.size from Array.length_toList]
  exact h2
/-- Onto a slice that has no room: a new row. -/
theorem run_full_bytes (W : World) (a : Option Addr) (l r : List UInt8) (x : Addr) (cap : Nat) (hl : BS W a l) (h : BS W (some x) r) (hr : 0 < r.length) (hsz : l.length + r.length ≤ 140737488355328) :
    ∃ v' w', (Builtin.append_ #[62, 62] 62 #[.slice a l.length l.length, .slice (some x) r.length cap]).run Try.prog W = .ok v' w' ∧ OwnS w' W.heap.size v' (l ++ r) ∧ Below W.heap.size W w' := by
  obtain ⟨i0, hi, hz0, hz1, hz2⟩ := info_parts info5
  cases a with
  | none =>
    have hl0 : l = [] := by
      rcases hl with h | ⟨b, off, h, _⟩
      · exact h
      · cases h
    subst hl0
    exact run_own_bytes W W.heap.size (.slice none 0 0) [] r (some x) cap (World.ownsRow_nil W _ 5 1) h (fun e => by cases e) (Nat.le_refl _) hsz
  | some b =>
    obtain ⟨v', w', h1, h2, h3⟩ := run_append_arg_grows (P := Try.prog) W 62 62 5 i0 (.int .u8 0) 1 1 Try.underlying62 hi hz0 hz1 hz2 rfl (by decide) b l.length l.length (cellsOf l) (by rw [cellsOf_length, Nat.mul_one]) hl.cells x r.length cap (cellsOf r) (by rw [cellsOf_length, Nat.mul_one]) h.cells (by omega) (by unfold maxLen; omega) (by omega)
    refine ⟨v', w', h1, ?_, (Below.refl _ W).grown h3 (Nat.le_refl _) (fun k hk => by cases hk)⟩
    unfold OwnS
    rw [List.length_append, cellsOf_append]
    exact h2
/-- A number's four bytes. -/
def be4 (n : Nat) : List UInt8 := [UInt8.ofNat (n / 16777216), UInt8.ofNat (n / 65536), UInt8.ofNat (n / 256), UInt8.ofNat n]
theorem be4_cells (n : Nat) (h : n < 4294967296) : (cellsOf (be4 n)).toArray = #[.int .u8 ((n : Int) / 16777216), .int .u8 ((n : Int) / 65536 % 256), .int .u8 ((n : Int) / 256 % 256), .int .u8 ((n : Int) % 256)] := by
  simp only [cellsOf, be4, List.map_cons, List.map_nil, UInt8.toNat_ofNat']
  have e0 : ((n / 16777216 % 2 ^ 8 : Nat) : Int) = (n : Int) / 16777216 := by omega
  have e1 : ((n / 65536 % 2 ^ 8 : Nat) : Int) = (n : Int) / 65536 % 256 := by omega
  have e2 : ((n / 256 % 2 ^ 8 : Nat) : Int) = (n : Int) / 256 % 256 := by omega
  have e3 : ((n % 2 ^ 8 : Nat) : Int) = (n : Int) % 256 := by omega
  rw [e0, e1, e2, e3]
end Go.Proofs.Ytonbfcpbgkpbaaa.Oc
