/- Maps from texts to numbers: what they hold, as a function; a key may be written again. -/
import Derived.Test.YtonbfcpbgkpbaaaQRulesM
import Derived.Maps.OwnSet
import Derived.Maps.OwnOps
import Derived.WideKeyPair
namespace Go.Proofs.Ytonbfcpbgkpbaaa
open Go.RowKit Go.Sort Go.Joins Go.Maps
set_option linter.unusedVariables false
/-- Block b is a map of n texts to numbers; f tells what it holds. -/
def MapS (w : World) (b n : Nat) (f : ByteArray → Option Nat) : Prop :=
  ∃ D : DataW Unit, w.ownsMap Try.prog 9 (plainElem Try.prog 3) b n D ∧ ∀ x l, keyOf Try.prog 9 (.string x) = some l → Maps.has D l = (f x).isSome ∧ ∀ a, f x = some a → ∀ z, D.atKey l z = .lit (.int .i64 (a : Nat))
theorem lawS : Keyed Try.prog 9 := string_keyed Try.underlying9
theorem und3 : Try.prog.underlying 3 = some (.int .i64) := by kernel_rfl
theorem zero3 (w : World) : (zeroValue 3).run Try.prog w = .ok (.int .i64 0) w := by kernel_rfl
theorem MapS.made (w : World) : MapS (w.alloc (.map #[] 0)) w.heap.size 0 (fun _ => none) :=
  ⟨.map [], World.ownsMap_made _ _ _ _, fun _ _ _ => ⟨rfl, fun _ h => by cases h⟩⟩
theorem MapS.kept {w w' : World} {b n : Nat} {f : ByteArray → Option Nat} (h : MapS w b n f) (hk : w'.heap[b]? = w.heap[b]?) : MapS w' b n f := by
  obtain ⟨D, ⟨es, clock, hb, F, hs, hD⟩, h2⟩ := h
  exact ⟨D, ⟨es, clock, hk.trans hb, F, hs, hD⟩, h2⟩
theorem MapS.lt {w : World} {b n : Nat} {f : ByteArray → Option Nat} (h : MapS w b n f) : b < w.heap.size := by
  obtain ⟨D, h1, _⟩ := h
  exact h1.lt
theorem keyS (x : ByteArray) (h : x.size ≤ 4611686018427387904) : keyOf Try.prog 9 (.string x) = some (.string x.data.toList) := Go.WideMaps.keyOf_string_mk Try.underlying9 (by unfold maxLen; omega)
theorem MapS.look {w : World} {b n : Nat} {f : ByteArray → Option Nat} {t : TypeId} (h : MapS w b n f) (ht : Try.prog.underlying t = some (.map 9 3)) {x : ByteArray} {l : Lit} (hk : keyOf Try.prog 9 (.string x) = some l) :
    (Instr.lookup t (.map (some b)) (.string x) true).run Try.prog w = .ok (.tuple #[.int .i64 (((f x).getD 0 : Nat) : Int), .bool (f x).isSome]) w := by
  obtain ⟨D, h1, h2⟩ := h
  obtain ⟨v, ps, hrun, hv⟩ := h1.look_ok lawS ht (zero3 w) (zd := .lit (.int .i64 0)) (zp := []) (plainElem_int und3 (by decide)) hk
  obtain ⟨e1, e2⟩ := h2 x l hk
  obtain ⟨c, rfl, hc, -⟩ := plainElem_int_inv und3 hv
  rw [hrun, e1]
  have hc := congrArg Prod.fst hc
  simp only at hc
  cases hf : f x with
  | some a =>
    rw [e2 a hf] at hc
    simp at hc
    subst hc; rfl
  | none =>
    rw [hf] at e1
    rw [Maps.atKey_of_not_has e1] at hc
    simp at hc
    rw [← hc]; rfl
/-- A key is written, be it there or not. -/
theorem MapS.put {w : World} {b n : Nat} {f : ByteArray → Option Nat} {t : TypeId} (h : MapS w b n f) (ht : Try.prog.underlying t = some (.map 9 3)) (hn : n < maxLen) {x : ByteArray} {l : Lit} (hk : keyOf Try.prog 9 (.string x) = some l) {a : Nat} (ha : a ≤ 9223372036854775807) :
    ∃ w', (Instr.mapUpdate t (.map (some b)) (.string x) (.int .i64 (a : Nat))).run Try.prog w = .ok () w' ∧ MapS w' b (n + 1) (fun y => if y = x then some a else f y) ∧ w.grownBy w' (some b) := by
  obtain ⟨D, h1, h2⟩ := h
  have hw : (Lit.int .i64 ((a : Nat) : Int)).wf = true := WalkArith.wf_i64 (by omega)
  obtain ⟨w', hrun, r1, r2⟩ := h1.store lawS ht hn hk (plainElem_int (H := Unit) und3 hw)
  refine ⟨w', hrun, ⟨_, r1, ?_⟩, r2.grown⟩
  intro y l' hy
  by_cases hxy : y = x
  · subst hxy
    have : l' = l := Option.some.inj (hy.symm.trans hk)
    subst this
    have e0 : (fun z => if z = y then some a else f z) y = some a := if_pos rfl
    rw [e0]
    refine ⟨Maps.has_put_same h1.isMap (lawS.key hk) _, fun c hc z => ?_⟩
    obtain rfl := Option.some.inj hc
    exact Maps.atKey_put_same h1.isMap (lawS.key hk) _ _
  · have hl : l' ≠ l := fun e => hxy (by have := lawS.inj (e ▸ hy) hk; cases this; rfl)
    have e0 : (fun z => if z = x then some a else f z) y = f y := if_neg hxy
    rw [e0, Maps.has_put_other hl]
    obtain ⟨c1, c2⟩ := h2 y l' hy
    exact ⟨c1, fun c hc z => by rw [Maps.atKey_put_other hl]; exact c2 c hc z⟩
/-- What a list of made words says of a text. -/
def FM (made : List (List UInt8 × Nat)) (x : ByteArray) : Option Nat := (made.find? fun y => y.1 == tl x).map (·.2)
theorem FM_cons (made : List (List UInt8 × Nat)) (s : List UInt8) (v : Nat) : FM ((s, v) :: made) = fun y => if y = textOf s then some v else FM made y := by
  funext y
  unfold FM
  by_cases h : y = textOf s
  · subst h
    rw [if_pos rfl, List.find?_cons_of_pos (by simp [tl, textOf])]
    rfl
  · rw [if_neg h, List.find?_cons_of_neg]
    intro e
    have e : s = tl y := by simpa using e
    apply h
    rw [e]
    rfl
end Go.Proofs.Ytonbfcpbgkpbaaa
