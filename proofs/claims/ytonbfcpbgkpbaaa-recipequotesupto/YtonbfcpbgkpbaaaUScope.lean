/- A scope with labels: what holds from a label on. utf.stands, utf.badByte: their contracts. -/
import Derived.Test.YtonbfcpbgkpbaaaUMath
import Derived.Test.YtonbfcpbgkpbaaaProg
import Derived.WalkMore
import Derived.WalkKit
import Derived.ProofKit
import Derived.Below
import Derived.OpenShut
import Derived.Deep.QuietTactic
import Derived.BigQuiet
namespace Go.Proofs.Ytonbfcpbgkpbaaa
open Go.RowKit
/-- From label l on, inside the scope of c, the run ends as Q says. -/
def On (P : Program) (c : Code) (Q : Exit → Act → World → Prop) (l : Nat) (a : Act) (w : World) : Prop :=
  ∃ rest, findLabel c l = some rest ∧ ∀ (b : Frame) (k : List Item) (cs : List Frame), ∃ e a' w', Q e a' w' ∧ Arrives P (lone (b.at a (.code rest :: .inScope c :: k)) cs w) b k cs e a' w'
/-- As Q; by a goto: as L says of its label. -/
def viaL (L : Nat → Act → World → Prop) (Q : Exit → Act → World → Prop) : Exit → Act → World → Prop
  | .goto l, a, w => L l a w
  | e, a, w => Q e a w
theorem viaL_goto (L : Nat → Act → World → Prop) (Q : Exit → Act → World → Prop) (l : Nat) (a : Act) (w : World) : viaL L Q (.goto l) a w = L l a w := rfl
theorem viaL_ret (L : Nat → Act → World → Prop) (Q : Exit → Act → World → Prop) (a : Act) (w : World) : viaL L Q .ret a w = Q .ret a w := rfl
theorem viaL_normal (L : Nat → Act → World → Prop) (Q : Exit → Act → World → Prop) (a : Act) (w : World) : viaL L Q .normal a w = Q .normal a w := rfl
theorem on_inner {P : Program} {c : Code} {Q : Exit → Act → World → Prop} {b : Frame} {k : List Item} {cs : List Frame} {x : Code} {a : Act} {w : World} (h : x.wp P (viaL (On P c Q) Q) a w) :
    ∃ e a' w', Q e a' w' ∧ Arrives P (lone (b.at a (.code x :: .inScope c :: k)) cs w) b k cs e a' w' := by
  obtain ⟨e, a₁, w₁, hq, harr⟩ := h b (.inScope c :: k) cs
  cases e with
  | normal => exact ⟨.normal, a₁, w₁, hq, Steps.trans harr (.one step_inScope)⟩
  | exit id => exact ⟨.exit id, a₁, w₁, hq, fun k' hk => harr k' (by simp [exitTo, hk])⟩
  | goto l =>
    obtain ⟨rest, hf, hr⟩ := hq
    obtain ⟨e₂, a₂, w₂, hq₂, harr₂⟩ := hr b k cs
    have hg : gotoIn l (.inScope c :: k) = some (.code rest :: .inScope c :: k) := by simp [gotoIn, hf]
    exact ⟨e₂, a₂, w₂, hq₂, .of_steps (harr _ hg) harr₂⟩
  | ret => exact ⟨_, a₁, w₁, hq, harr⟩
  | panic ch => exact ⟨_, a₁, w₁, hq, harr⟩
  | outgrown => exact ⟨_, a₁, w₁, hq, harr⟩
theorem on_enter {P : Program} {c : Code} {Q : Exit → Act → World → Prop} {a : Act} {w : World} (h : c.wp P (viaL (On P c Q) Q) a w) : (Code.scope c).wp P Q a w := by
  intro b k cs
  obtain ⟨e, a₁, w₁, hq, harr⟩ := on_inner (b := b) (k := k) (cs := cs) h
  exact ⟨e, a₁, w₁, hq, .of_steps (.one step_scope) harr⟩
theorem on_label {P : Program} {c rest : Code} {Q : Exit → Act → World → Prop} {l : Nat} {a : Act} {w : World} (hf : findLabel c l = some rest) (h : rest.wp P (viaL (On P c Q) Q) a w) : On P c Q l a w :=
  ⟨rest, hf, fun _ _ _ => on_inner h⟩
/-- A text's bytes. -/
abbrev tl (s : ByteArray) : List UInt8 := s.data.toList
theorem tl_len (s : ByteArray) : (tl s).length = s.size := by simp
set_option maxHeartbeats 400000 in
theorem stands_any (s : ByteArray) (i lo hi : Nat) (w : World) :
    Calls Try.prog 75 #[.string s, .int .i64 i, .int .u8 lo, .int .u8 hi] w fun e w' => e = .returned (.bool (stands (tl s) i lo hi)) ∧ w' = w := by
  unfold stands
  rw [tl_len]
  by_cases h3 : i < s.size
  · have hb : bt (tl s) i = (s[i]).toNat := by
      unfold bt
      rw [List.getD_eq_getElem?_getD, List.getElem?_eq_getElem (by simpa using h3)]
      rfl
    have hbb : (s[i]).toNat < 256 := UInt8.toNat_lt _
    rw [hb]
    have hd : decide (i < s.size) = true := by simpa using h3
    by_cases h4 : lo ≤ (s[i]).toNat
    · have hd4 : decide (lo ≤ (s[i]).toNat) = true := by simpa using h4
      by_cases h5 : (s[i]).toNat ≤ hi
      · have hd5 : decide ((s[i]).toNat ≤ hi) = true := by simpa using h5
        rw [hd, hd4, hd5]
        clear hd hd4 hd5 hb
        go_enter Try.func75, Try.ntmps75
        go_wp2
        go_ret
        exact ⟨rfl, rfl⟩
      · have hd5 : decide ((s[i]).toNat ≤ hi) = false := by simpa using h5
        rw [hd, hd4, hd5]
        clear hd hd4 hd5 hb
        go_enter Try.func75, Try.ntmps75
        go_wp2
        go_ret
        exact ⟨rfl, rfl⟩
    · have hd4 : decide (lo ≤ (s[i]).toNat) = false := by simpa using h4
      rw [hd, hd4]
      clear hd hd4 hb
      go_enter Try.func75, Try.ntmps75
      go_wp2
      go_ret
      exact ⟨rfl, rfl⟩
  · have hd : decide (i < s.size) = false := by simpa using h3
    rw [hd]
    clear hd
    go_enter Try.func75, Try.ntmps75
    go_wp2
    go_ret
    exact ⟨rfl, rfl⟩
end Go.Proofs.Ytonbfcpbgkpbaaa
