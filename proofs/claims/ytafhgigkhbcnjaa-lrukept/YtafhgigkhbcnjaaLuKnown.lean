/- tesseralaw11.known: its contract. -/
import Derived.Test.YtafhgigkhbcnjaaLuTSame
namespace Go.Proofs.Ytafhgigkhbcnjaa.LU.T
open Go.RowKit Go.Joins Go.Sort Go.Maps
set_option linter.unusedVariables false
set_option linter.unusedSimpArgs false
set_option maxRecDepth 100000
theorem kw_small (k : ByteArray) (h : k.size ≤ 1000) : Kw k := ⟨_, Go.WideMaps.keyOf_string_mk Try.underlying9 (by unfold maxLen; omega)⟩
theorem st1 : putL 2 ([] : List (κ × Int)) ⟨#[97]⟩ 1 = [(⟨#[97]⟩, 1)] := by rfl
theorem st2 : putL 2 ([(⟨#[97]⟩, 1)] : List (κ × Int)) ⟨#[98]⟩ 2 = [(⟨#[98]⟩, 2), (⟨#[97]⟩, 1)] := by rfl
theorem st3 : getL ([(⟨#[98]⟩, 2), (⟨#[97]⟩, 1)] : List (κ × Int)) ⟨#[97]⟩ = [(⟨#[97]⟩, 1), (⟨#[98]⟩, 2)] := by rfl
theorem go3 : gotL ([(⟨#[98]⟩, 2), (⟨#[97]⟩, 1)] : List (κ × Int)) ⟨#[97]⟩ = some 1 := by rfl
theorem st4 : putL 2 ([(⟨#[97]⟩, 1), (⟨#[98]⟩, 2)] : List (κ × Int)) ⟨#[99]⟩ 3 = [(⟨#[99]⟩, 3), (⟨#[97]⟩, 1)] := by rfl
theorem st5 : getL ([(⟨#[99]⟩, 3), (⟨#[97]⟩, 1)] : List (κ × Int)) ⟨#[98]⟩ = [(⟨#[99]⟩, 3), (⟨#[97]⟩, 1)] := by rfl
theorem go5 : gotL ([(⟨#[99]⟩, 3), (⟨#[97]⟩, 1)] : List (κ × Int)) ⟨#[98]⟩ = none := by rfl
theorem st6 : putL 2 ([(⟨#[97]⟩, 1)] : List (κ × Int)) ⟨#[97]⟩ 2 = [(⟨#[97]⟩, 2)] := by rfl
theorem st7 : getL ([(⟨#[97]⟩, 2)] : List (κ × Int)) ⟨#[97]⟩ = [(⟨#[97]⟩, 2)] := by rfl
theorem go7 : gotL ([(⟨#[97]⟩, 2)] : List (κ × Int)) ⟨#[97]⟩ = some 2 := by rfl
theorem st8 : putL 0 ([] : List (κ × Int)) ⟨#[97]⟩ 1 = [] := by rfl
theorem go9 : gotL ([] : List (κ × Int)) ⟨#[97]⟩ = none := by rfl
theorem st9 : getL ([] : List (κ × Int)) ⟨#[97]⟩ = [] := by rfl
/-- A cache whose blocks are all new since base. -/
def LruN (base : Nat) (w : World) (x c : Nat) (l : List (κ × Int)) : Prop := ∃ F, Lru w x c F l ∧ ∀ i, F i → base ≤ i
theorem Tu.belowN {F : Nat → Prop} {base : Nat} {w w' : World} (h : Tu F w w') (hF : ∀ i, F i → base ≤ i) (hb : base ≤ w.heap.size) : Below base w w' :=
  ⟨h.os, h.tape, h.output, h.size, fun k hk => h.block k (by omega) (fun e => by have := hF k e; omega)⟩
theorem putN (base : Nat) (k : κ) (v : Int) (hk : Kw k) (x c : Nat) (l : List (κ × Int)) (W : World) (h : LruN base W x c l) (hb : base ≤ W.heap.size) :
    Calls Try.prog 8 #[.pointer (some ⟨x, 0, none⟩), .string k, .int .i64 v] W fun ee w' => ee = .returned (.tuple #[]) ∧ LruN base w' x c (putL c l k v) ∧ Below base W w' := by
  obtain ⟨F, h1, h2⟩ := h
  refine (put_any k v hk x c F l W h1).mono ?_
  rintro e w' ⟨rfl, F', h3, h4, h5⟩
  exact ⟨rfl, ⟨F', h3, fun i hi => (h4 i hi).elim (h2 i) (fun h => Nat.le_trans hb h)⟩, Tu.belowN h5 h2 hb⟩
theorem getN (base : Nat) (k : κ) (hk : Kw k) (x c : Nat) (l : List (κ × Int)) (W : World) (h : LruN base W x c l) (hb : base ≤ W.heap.size) :
    Calls Try.prog 9 #[.pointer (some ⟨x, 0, none⟩), .string k] W fun e w' => e = .returned (.tuple #[.int .i64 ((gotL l k).getD 0), .bool (gotL l k).isSome]) ∧ LruN base w' x c (getL l k) ∧ Below base W w' := by
  obtain ⟨F, h1, h2⟩ := h
  refine (get_any k hk x c F l W h1).mono ?_
  rintro e w' ⟨rfl, h3, h5⟩
  exact ⟨rfl, ⟨F, h3, h2⟩, Tu.belowN h5 h2 hb⟩
theorem newN (c : Nat) (hc : c ≤ 4096) (base : Nat) (W : World) (hb : base ≤ W.heap.size) :
    Calls Try.prog 7 #[.int .i64 (c : Nat)] W fun e w' => ∃ x, e = .returned (.tuple #[.pointer (some ⟨x, 0, none⟩), .int .i64 0]) ∧ LruN base w' x c [] ∧ Below base W w' := by
  refine (new_any c hc W).mono ?_
  rintro e w' ⟨x, F, rfl, h1, h2, h3⟩
  exact ⟨x, rfl, ⟨F, h1, fun i hi => Nat.le_trans hb (h2 i hi)⟩, h3.mono hb⟩
theorem lenN (base x c : Nat) (l : List (κ × Int)) (W : World) (h : LruN base W x c l) :
    Calls Try.prog 10 #[.pointer (some ⟨x, 0, none⟩)] W fun e w' => e = .returned (.int .i64 (l.length : Nat)) ∧ w' = W := by
  obtain ⟨F, ⟨mb, kn, bl, key, val, f, h1, rfl, _⟩, h2⟩ := h
  rw [rows_length]
  exact len_any x c mb kn bl key val f W h1
theorem keysN (base x c : Nat) (l : List (κ × Int)) (W : World) (h : LruN base W x c l) (hb : base ≤ W.heap.size) :
    Calls Try.prog 29 #[.pointer (some ⟨x, 0, none⟩)] W fun ee w' => ∃ g, ee = .returned (.slice (some ⟨g, 0, none⟩) l.length l.length) ∧ OwnE w' g (cellsE (l.map (·.1))) ∧ LruN base w' x c l ∧ Below base W w' := by
  obtain ⟨F, h1, h2⟩ := h
  refine (keys_any x c F l W h1).mono ?_
  rintro ee w' ⟨g, rfl, h3, h4, h5⟩
  exact ⟨g, rfl, h4, ⟨F, h1.below h5, h2⟩, h5.mono hb⟩
theorem LruN.below {base : Nat} {w w' : World} {x c : Nat} {l : List (κ × Int)} (h : LruN base w x c l) (hb : Below w.heap.size w w') : LruN base w' x c l := by
  obtain ⟨F, h1, h2⟩ := h
  exact ⟨F, h1.below hb, h2⟩
set_option maxHeartbeats 4000000 in
theorem known_any (W : World) : Calls Try.prog 11 #[] W fun e w' => e = .returned (.bool true) ∧ Below W.heap.size W w' := by
  obtain ⟨B, hB⟩ : ∃ B, B = W.heap.size := ⟨_, rfl⟩
  have HB : Hid (B = W.heap.size) := hB
  rw [← hB]
  clear hB
  go_enter Try.func11, Try.ntmps11
  go_wp2_with fail
  refine (newN 2 (by omega) B W (by rw [HB.out]; exact Nat.le_refl _)).mono ?_
  rintro _ w1 ⟨x, rfl, h1, b1⟩
  have s1 : B ≤ w1.heap.size := Nat.le_trans (Nat.le_of_eq HB.out) b1.size
  go_wp2_with fail
  refine (putN B ⟨#[97]⟩ 1 (kw_small _ (by decide)) x 2 [] w1 h1 s1).mono ?_
  rintro _ w2 ⟨rfl, h2, b2⟩
  rw [st1] at h2
  have b2 := b1.trans b2
  have s2 : B ≤ w2.heap.size := Nat.le_trans (Nat.le_of_eq HB.out) b2.size
  clear h1 b1 s1
  go_wp2_with fail
  refine (putN B ⟨#[98]⟩ 2 (kw_small _ (by decide)) x 2 _ w2 h2 s2).mono ?_
  rintro _ w3 ⟨rfl, h3, b3⟩
  rw [st2] at h3
  have b3 := b2.trans b3
  have s3 : B ≤ w3.heap.size := Nat.le_trans (Nat.le_of_eq HB.out) b3.size
  clear h2 b2 s2
  go_wp2_with fail
  refine (getN B ⟨#[97]⟩ (kw_small _ (by decide)) x 2 _ w3 h3 s3).mono ?_
  rintro _ w4 ⟨rfl, h4, b4⟩
  rw [st3] at h4
  rw [go3]
  have b4 := b3.trans b4
  have s4 : B ≤ w4.heap.size := Nat.le_trans (Nat.le_of_eq HB.out) b4.size
  clear h3 b3 s3
  go_wp2_with fail
  refine (putN B ⟨#[99]⟩ 3 (kw_small _ (by decide)) x 2 _ w4 h4 s4).mono ?_
  rintro _ w5 ⟨rfl, h5, b5⟩
  rw [st4] at h5
  have b5 := b4.trans b5
  have s5 : B ≤ w5.heap.size := Nat.le_trans (Nat.le_of_eq HB.out) b5.size
  clear h4 b4 s4
  go_wp2_with fail
  refine (getN B ⟨#[98]⟩ (kw_small _ (by decide)) x 2 _ w5 h5 s5).mono ?_
  rintro _ w6 ⟨rfl, h6, b6⟩
  rw [st5] at h6
  rw [go5]
  have b6 := b5.trans b6
  have s6 : B ≤ w6.heap.size := Nat.le_trans (Nat.le_of_eq HB.out) b6.size
  clear h5 b5 s5
  go_wp2_with fail
  refine (keysN B x 2 _ w6 h6 s6).mono ?_
  rintro _ w7 ⟨g, rfl, o7, h7, b7⟩
  have b7 := b6.trans b7
  have s7 : B ≤ w7.heap.size := Nat.le_trans (Nat.le_of_eq HB.out) b7.size
  clear h6 b6 s6
  have e7 : ESP (w7.alloc (.cells #[.string ⟨#[99]⟩, .string ⟨#[97]⟩] 9 (0, 0))) (some ⟨g, 0, none⟩) [⟨#[99]⟩, ⟨#[97]⟩] := (OwnE.esp (l := [⟨#[99]⟩, ⟨#[97]⟩]) o7).below ((Below.refl _ _).alloc (Nat.le_refl _) _)
  have e8 : ESP (w7.alloc (.cells #[.string ⟨#[99]⟩, .string ⟨#[97]⟩] 9 (0, 0))) (some ⟨w7.heap.size, 0, none⟩) [⟨#[99]⟩, ⟨#[97]⟩] := OwnE.esp (l := [⟨#[99]⟩, ⟨#[97]⟩]) (heap_alloc_new w7 _)
  have h8 := h7.below ((Below.refl w7.heap.size w7).alloc (Nat.le_refl _) (.cells #[.string ⟨#[99]⟩, .string ⟨#[97]⟩] 9 (0, 0)))
  have b8 := b7.alloc s7 (.cells #[.string ⟨#[99]⟩, .string ⟨#[97]⟩] 9 (0, 0))
  have HE7 : Hid _ := e7
  have HE8 : Hid _ := e8
  clear e7 e8 h7 o7 b7
  go_wp2_with fail
  refine (same_any _ _ 2 2 [⟨#[99]⟩, ⟨#[97]⟩] _ (by decide) HE7.out HE8.out).mono ?_
  rintro _ w9 ⟨rfl, b9⟩
  have h9 := h8.below b9
  have b9 := b8.trans (b9.mono (by simp; omega))
  clear h8 b8 HE7 HE8
  go_wp2_with fail
  refine (lenN B x 2 _ w9 h9).mono ?_
  rintro _ w10 ⟨rfl, e10⟩
  obtain rfl := e10.symm
  go_wp2_with fail
  go_ret
  exact ⟨rfl, b9⟩
end Go.Proofs.Ytafhgigkhbcnjaa.LU.T
