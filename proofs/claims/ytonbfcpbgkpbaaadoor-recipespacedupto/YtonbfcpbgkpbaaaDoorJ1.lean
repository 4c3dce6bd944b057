import Derived.Laws.RangeAny
import Derived.Test.YtonbfcpbgkpbaaaDoorProg
import Derived.WalkMore
import Derived.WalkKit
import Derived.ProofKit
import Derived.Below
import Derived.OpenShut
import Derived.Deep.QuietTactic
import Derived.BigQuiet
import Derived.Lib.Walk
import Derived.Lib.Strings
import Derived.Lib.Bytealg
import Derived.Lib.ConvBytes
import Derived.Lib.Hide
import Derived.Lib.SmallJoins
import Derived.Lib.UnsafeStr
import Derived.Test.YtonbfcpbgkpbaaaDoorJ0
import Derived.Deep.RegionHeld3
import Derived.Deep.DrawnRows
import Derived.Deep.Draws
section
/- The mathematics of utf: which bytes at a front fit into one sequence; items, what is held, what is put in an ill-formed part's place. -/
namespace Go.Proofs.YtonbfcpbgkpbaaaDoor
def bt (l : List UInt8) (i : Nat) : Nat := (l.getD i 0).toNat
theorem bt_lt (l : List UInt8) (i : Nat) : bt l i < 256 := UInt8.toNat_lt _
theorem bt_drop (l : List UInt8) (k i : Nat) : bt (l.drop k) i = bt l (k + i) := by simp [bt, List.getD]
theorem bt_append (l t : List UInt8) (i : Nat) (h : i < l.length) : bt (l ++ t) i = bt l i := by simp [bt, List.getD, List.getElem?_append_left h]
theorem bt_over (l : List UInt8) (i : Nat) (h : l.length ≤ i) : bt l i = 0 := by simp [bt, List.getD, List.getElem?_eq_none h]
theorem bt_get (l : List UInt8) (i : Nat) (h : i < l.length) : l[i]? = some (UInt8.ofNat (bt l i)) := by
  simp [bt, List.getD, List.getElem?_eq_getElem h]
/-- A byte from lo to hi stands at i. -/
def stands (l : List UInt8) (i lo hi : Nat) : Bool := decide (i < l.length) && (decide (lo ≤ bt l i) && decide (bt l i ≤ hi))
def goOne (l : List UInt8) (n lo hi : Nat) : Nat × Bool := if stands l n lo hi = true then (n + 1, true) else (n, false)
def goTwo (l : List UInt8) (n lo hi : Nat) : Nat × Bool := if stands l n lo hi = true then goOne l (n + 1) 128 191 else (n, false)
def goThree (l : List UInt8) (n lo hi : Nat) : Nat × Bool := if stands l n lo hi = true then goTwo l (n + 1) 128 191 else (n, false)
/-- How many bytes fit into one sequence; are they the whole of it? -/
def front (l : List UInt8) : Nat × Bool :=
  if l.length = 0 then (0, false) else
  if bt l 0 ≤ 127 then (1, true) else
  if bt l 0 ≤ 193 then (0, false) else
  if bt l 0 ≤ 223 then goOne l 1 128 191 else
  if bt l 0 = 224 then goTwo l 1 160 191 else
  if bt l 0 = 237 then goTwo l 1 128 159 else
  if bt l 0 ≤ 239 then goTwo l 1 128 191 else
  if bt l 0 = 240 then goThree l 1 144 191 else
  if bt l 0 ≤ 243 then goThree l 1 128 191 else
  if bt l 0 = 244 then goThree l 1 128 143 else (0, false)
/-- What front answers, by the bytes: n bytes, of which b0 .. b3 are the first ones. -/
def FS (n b0 b1 b2 b3 : Nat) (r : Nat × Bool) : Prop :=
  (r = (0, false) ∧ (n = 0 ∨ (0 < n ∧ 128 ≤ b0 ∧ (b0 ≤ 193 ∨ 245 ≤ b0)))) ∨
  (r = (1, true) ∧ 0 < n ∧ b0 ≤ 127) ∨
  (r = (1, false) ∧ 0 < n ∧ 194 ≤ b0 ∧ b0 ≤ 244 ∧ (n = 1 ∨ b1 < 128 ∨ 191 < b1 ∨ (b0 = 224 ∧ b1 < 160) ∨ (b0 = 240 ∧ b1 < 144) ∨ (b0 = 237 ∧ 159 < b1) ∨ (b0 = 244 ∧ 143 < b1))) ∨
  (r = (2, true) ∧ 1 < n ∧ 194 ≤ b0 ∧ b0 ≤ 223 ∧ 128 ≤ b1 ∧ b1 ≤ 191) ∨
  (r = (2, false) ∧ 1 < n ∧ 224 ≤ b0 ∧ b0 ≤ 244 ∧ 128 ≤ b1 ∧ b1 ≤ 191 ∧ (b0 ≠ 224 ∨ 160 ≤ b1) ∧ (b0 ≠ 240 ∨ 144 ≤ b1) ∧ (b0 ≠ 237 ∨ b1 ≤ 159) ∧ (b0 ≠ 244 ∨ b1 ≤ 143) ∧ (n = 2 ∨ b2 < 128 ∨ 191 < b2)) ∨
  (r = (3, true) ∧ 2 < n ∧ 224 ≤ b0 ∧ b0 ≤ 239 ∧ 128 ≤ b1 ∧ b1 ≤ 191 ∧ (b0 ≠ 224 ∨ 160 ≤ b1) ∧ (b0 ≠ 237 ∨ b1 ≤ 159) ∧ 128 ≤ b2 ∧ b2 ≤ 191) ∨
  (r = (3, false) ∧ 2 < n ∧ 240 ≤ b0 ∧ b0 ≤ 244 ∧ 128 ≤ b1 ∧ b1 ≤ 191 ∧ (b0 ≠ 240 ∨ 144 ≤ b1) ∧ (b0 ≠ 244 ∨ b1 ≤ 143) ∧ 128 ≤ b2 ∧ b2 ≤ 191 ∧ (n = 3 ∨ b3 < 128 ∨ 191 < b3)) ∨
  (r = (4, true) ∧ 3 < n ∧ 240 ≤ b0 ∧ b0 ≤ 244 ∧ 128 ≤ b1 ∧ b1 ≤ 191 ∧ (b0 ≠ 240 ∨ 144 ≤ b1) ∧ (b0 ≠ 244 ∨ b1 ≤ 143) ∧ 128 ≤ b2 ∧ b2 ≤ 191 ∧ 128 ≤ b3 ∧ b3 ≤ 191)
theorem FS.inj {n b0 b1 b2 b3 : Nat} {r r' : Nat × Bool} (h : FS n b0 b1 b2 b3 r) (h' : FS n b0 b1 b2 b3 r') : r = r' := by
  unfold FS at h h'
  rcases h with ⟨e, g⟩ | ⟨e, g⟩ | ⟨e, g⟩ | ⟨e, g⟩ | ⟨e, g⟩ | ⟨e, g⟩ | ⟨e, g⟩ | ⟨e, g⟩ <;>
  rcases h' with ⟨e', g'⟩ | ⟨e', g'⟩ | ⟨e', g'⟩ | ⟨e', g'⟩ | ⟨e', g'⟩ | ⟨e', g'⟩ | ⟨e', g'⟩ | ⟨e', g'⟩ <;> first | exact e.trans e'.symm | (exfalso; clear e e'; omega)
theorem stands_iff (l : List UInt8) (i lo hi : Nat) : stands l i lo hi = true ↔ i < l.length ∧ lo ≤ bt l i ∧ bt l i ≤ hi := by simp [stands]
theorem fs_ite {n b0 b1 b2 b3 : Nat} {c : Prop} [Decidable c] {x y : Nat × Bool} (h : c → FS n b0 b1 b2 b3 x) (h' : ¬c → FS n b0 b1 b2 b3 y) : FS n b0 b1 b2 b3 (if c then x else y) := by
  split
  · exact h (by assumption)
  · exact h' (by assumption)
theorem front_fs (l : List UInt8) : FS l.length (bt l 0) (bt l 1) (bt l 2) (bt l 3) (front l) := by
  unfold front goThree goTwo goOne
  simp only [stands_iff, Nat.reduceAdd]
  generalize bt l 0 = b0
  generalize bt l 1 = b1
  generalize bt l 2 = b2
  generalize bt l 3 = b3
  generalize l.length = n
  repeat' refine fs_ite (fun _ => ?_) (fun _ => ?_)
  all_goals
    unfold FS
    simp
    omega
theorem front_is {l : List UInt8} {r : Nat × Bool} (h : FS l.length (bt l 0) (bt l 1) (bt l 2) (bt l 3) r) : front l = r := (front_fs l).inj h
theorem front_spec (l : List UInt8) : FS l.length (bt l 0) (bt l 1) (bt l 2) (bt l 3) (front l) := front_fs l
def wid (l : List UInt8) : Nat := if (front l).2 = true then (front l).1 else 1
theorem front_le (l : List UInt8) : (front l).1 ≤ l.length ∧ (front l).1 ≤ 4 ∧ ((front l).2 = true → 1 ≤ (front l).1) ∧ ((front l).2 = false → (front l).1 ≤ 3) := by
  rcases front_spec l with ⟨e, h⟩ | ⟨e, h⟩ | ⟨e, h⟩ | ⟨e, h⟩ | ⟨e, h⟩ | ⟨e, h⟩ | ⟨e, h⟩ | ⟨e, h⟩ <;> rw [e] <;> simp <;> omega
theorem wid_pos (l : List UInt8) : 1 ≤ wid l := by
  unfold wid; split
  · exact (front_le l).2.2.1 (by assumption)
  · exact Nat.le_refl _
theorem wid_le (l : List UInt8) (h : l ≠ []) : wid l ≤ l.length := by
  have h0 : 0 < l.length := List.length_pos_iff.2 h
  unfold wid; split
  · exact (front_le l).1
  · omega
theorem wid_four (l : List UInt8) : wid l ≤ 4 := by
  unfold wid; split
  · exact (front_le l).2.1
  · omega
/-- What stands behind turns nothing, but where all that stands is a beginning. -/
theorem front_append (l t : List UInt8) (h : (front l).2 = true ∨ (front l).1 < l.length) : front (l ++ t) = front l := by
  refine front_is ?_
  have e0 := bt_append l t 0
  have e1 := bt_append l t 1
  have e2 := bt_append l t 2
  have e3 := bt_append l t 3
  have hl : (l ++ t).length = l.length + t.length := List.length_append
  generalize (l ++ t).length = m at *
  generalize bt (l ++ t) 0 = c0 at *
  generalize bt (l ++ t) 1 = c1 at *
  generalize bt (l ++ t) 2 = c2 at *
  generalize bt (l ++ t) 3 = c3 at *
  unfold FS
  rcases front_spec l with ⟨e, g⟩ | ⟨e, g⟩ | ⟨e, g⟩ | ⟨e, g⟩ | ⟨e, g⟩ | ⟨e, g⟩ | ⟨e, g⟩ | ⟨e, g⟩ <;> rw [e] at h ⊢ <;> clear e <;> simp at h ⊢ <;> omega
/-- Behind the first byte of what fits stand bytes from 128 to 191. -/
theorem front_later (l : List UInt8) (i : Nat) (h0 : 0 < i) (h : i < (front l).1) : i < l.length ∧ 128 ≤ bt l i ∧ bt l i ≤ 191 := by
  rcases front_spec l with ⟨e, g⟩ | ⟨e, g⟩ | ⟨e, g⟩ | ⟨e, g⟩ | ⟨e, g⟩ | ⟨e, g⟩ | ⟨e, g⟩ | ⟨e, g⟩ <;> rw [e] at h <;> simp at h <;> try (exfalso; omega)
  all_goals
    have hi : i = 1 ∨ i = 2 ∨ i = 3 := by omega
    rcases hi with rfl | rfl | rfl <;> omega
theorem front_first (l : List UInt8) (h : (front l).2 = false) (h1 : 1 ≤ (front l).1) : 194 ≤ bt l 0 ∧ bt l 0 ≤ 244 := by
  rcases front_spec l with ⟨e, g⟩ | ⟨e, g⟩ | ⟨e, g⟩ | ⟨e, g⟩ | ⟨e, g⟩ | ⟨e, g⟩ | ⟨e, g⟩ | ⟨e, g⟩ <;> rw [e] at h h1 <;> simp at h h1 <;> omega
theorem front_none (l : List UInt8) (h1 : 128 ≤ bt l 0) (h2 : bt l 0 ≤ 191) : front l = (0, false) := by
  have hl : l.length ≠ 0 := fun h => by rw [bt_over l 0 (by omega)] at h1; omega
  refine front_is ?_
  unfold FS
  simp
  omega
theorem front_nil : front [] = (0, false) := rfl
/-- A beginning of what fits is what fits of it. -/
theorem front_take (l : List UInt8) (k : Nat) (h : k < (front l).1 ∨ (k = (front l).1 ∧ (front l).2 = false)) : front (l.take k) = (k, false) := by
  refine front_is ?_
  have hl := (front_le l).1
  have hk : (l.take k).length = k := by simp; omega
  have et : ∀ i, i < k → bt (l.take k) i = bt l i := fun i hi => by simp [bt, List.getD, hi]
  have e0 := et 0
  have e1 := et 1
  have e2 := et 2
  have e3 := et 3
  rw [hk]
  generalize bt (l.take k) 0 = c0 at *
  generalize bt (l.take k) 1 = c1 at *
  generalize bt (l.take k) 2 = c2 at *
  generalize bt (l.take k) 3 = c3 at *
  clear et
  unfold FS
  have hc : k = 0 ∨ k = 1 ∨ k = 2 ∨ k = 3 := by
    have h4 := front_le l
    rcases h with h | ⟨h, h'⟩
    · omega
    · have := h4.2.2.2 h'
      omega
  rcases front_spec l with ⟨e, g⟩ | ⟨e, g⟩ | ⟨e, g⟩ | ⟨e, g⟩ | ⟨e, g⟩ | ⟨e, g⟩ | ⟨e, g⟩ | ⟨e, g⟩ <;> rw [e] at h hl <;> clear e <;> simp at h hl <;>
  rcases hc with rfl | rfl | rfl | rfl <;> simp <;> omega
/-- The whole sequence alone is whole. -/
theorem front_whole_take (l : List UInt8) (h : (front l).2 = true) : front (l.take (front l).1) = front l := by
  have hl := (front_le l).1
  refine front_is ?_
  generalize hk0 : (front l).1 = k at *
  have hk : (l.take k).length = k := by simp; omega
  have et : ∀ i, i < k → bt (l.take k) i = bt l i := fun i hi => by simp [bt, List.getD, hi]
  have e0 := et 0
  have e1 := et 1
  have e2 := et 2
  have e3 := et 3
  rw [hk]
  generalize bt (l.take k) 0 = c0 at *
  generalize bt (l.take k) 1 = c1 at *
  generalize bt (l.take k) 2 = c2 at *
  generalize bt (l.take k) 3 = c3 at *
  clear et
  unfold FS
  rcases front_spec l with ⟨e, g⟩ | ⟨e, g⟩ | ⟨e, g⟩ | ⟨e, g⟩ | ⟨e, g⟩ | ⟨e, g⟩ | ⟨e, g⟩ | ⟨e, g⟩ <;> rw [e] at h hk0 ⊢ <;> clear e <;> simp at h hk0 ⊢ <;> omega
end Go.Proofs.YtonbfcpbgkpbaaaDoor
end
section
/- Recipes: the tokens of a text, what a parser makes of them: the mathematics. -/
namespace Go.Proofs.YtonbfcpbgkpbaaaDoor
/-- Kinds: 1 a name, 2 a number, 3 a rune, 4 a word, 5 a sign, 6 none, 7 an open word, 8 the end. -/
structure Tok where
  k : Nat
  at' : Nat
  s : List UInt8
def smallB (c : UInt8) : Bool := decide (97 ≤ c.toNat) && decide (c.toNat ≤ 122)
def digitB (c : UInt8) : Bool := decide (48 ≤ c.toNat) && decide (c.toNat ≤ 57)
def capB (c : UInt8) : Bool := digitB c || (decide (65 ≤ c.toNat) && decide (c.toNat ≤ 70))
def lowB (c : UInt8) : Bool := digitB c || (decide (97 ≤ c.toNat) && decide (c.toNat ≤ 102))
def onB (c : UInt8) : Bool := smallB c || (decide (65 ≤ c.toNat) && decide (c.toNat ≤ 90)) || digitB c || c.toNat == 95
def shownB (c : UInt8) : Bool := decide (32 ≤ c.toNat) && decide (c.toNat ≤ 126)
def blnkB (c : UInt8) : Bool := c.toNat == 9 || c.toNat == 10 || c.toNat == 13 || c.toNat == 32
/-- The value of a digit of either kind. -/
def digV (c : UInt8) : Nat := if c.toNat ≤ 57 then c.toNat - 48 else if c.toNat ≤ 70 then c.toNat - 55 else c.toNat - 87
/-- May more stand directly behind? -/
def headOn : List UInt8 → Bool
  | [] => false
  | c :: _ => onB c
/-- How many bytes of blanks and remarks stand at the front (true: within a remark). -/
def skipN : Bool → List UInt8 → Nat
  | _, [] => 0
  | r, c :: l => if r = true then (if c.toNat = 10 then 1 + skipN false l else 1 + skipN true l) else (if blnkB c = true then 1 + skipN false l else if c.toNat = 35 then 1 + skipN true l else 0)
def wStep (r : Nat × Nat × List UInt8) : Nat × Nat × List UInt8 := (r.1, r.2.1 + 1, r.2.2)
def wCons (c : UInt8) (r : Nat × Nat × List UInt8) : Nat × Nat × List UInt8 := (r.1, r.2.1 + 1, c :: r.2.2)
def byteV (h c : UInt8) : UInt8 := UInt8.ofNat (digV h * 16 + digV c)
/-- A word behind its first sign: kind, bytes, text (0: between bytes, 1: behind a stroke, 2: behind a digit). -/
def wordW : Nat → UInt8 → List UInt8 → Nat × Nat × List UInt8
  | _, _, [] => (7, 0, [])
  | 0, h, c :: l => if c.toNat = 34 then (4, 1, []) else if c.toNat = 92 then wStep (wordW 1 h l) else if shownB c = true then wCons c (wordW 0 h l) else (6, 0, [])
  | 1, h, c :: l => if c.toNat = 34 ∨ c.toNat = 92 then wCons c (wordW 0 h l) else if lowB c = true then wStep (wordW 2 c l) else (6, 0, [])
  | _ + 2, h, c :: l => if lowB c = true ∧ shownB (byteV h c) = false then wCons (byteV h c) (wordW 0 h l) else (6, 0, [])
/-- A number's value in a base. -/
def valF (b : Nat) : Nat → List UInt8 → Nat
  | n, [] => n
  | n, c :: l => valF b (n * b + digV c) l
def scalarB (n : Nat) : Bool := decide (n ≤ 55295) || (decide (57344 ≤ n) && decide (n ≤ 1114111))
/-- Are these digits those of a rune? -/
def runeDB (l : List UInt8) : Bool := decide (4 ≤ l.length) && decide (l.length ≤ 6) && (decide (l.length ≤ 4) || (l.headD 0).toNat != 48) && scalarB (valF 16 0 l)
def bounded (k n : Nat) (l : List UInt8) : Nat × Nat × List UInt8 := (if headOn (l.drop n) = true then 6 else k, n, l.take n)
def tenDigits : Nat → List UInt8 → Nat
  | 0, _ => 0
  | _ + 1, [] => 0
  | f + 1, c :: l => if digitB c = true then 1 + tenDigits f l else 0
/-- A word's bytes, if it is one. -/
def wordT (R : Nat × Nat × List UInt8) : List UInt8 := if R.1 = 4 then R.2.2 else []
/-- The token at a front: kind, bytes, text. -/
def tokL (l : List UInt8) : Nat × Nat × List UInt8 :=
  match l with
  | [] => (8, 0, [])
  | c :: l' =>
    if c.toNat = 34 then ((wordW 0 0 l').1, (wordW 0 0 l').2.1 + 1, wordT (wordW 0 0 l'))
    else if smallB c = true then bounded 1 (l.takeWhile smallB).length l
    else if c.toNat = 48 then bounded 2 1 l
    else if digitB c = true then bounded 2 (tenDigits 10 l) l
    else if l.take 2 = [85, 43] then bounded (if runeDB ((l.drop 2).takeWhile capB) = true then 3 else 6) (2 + ((l.drop 2).takeWhile capB).length) l
    else if l.take 2 = [46, 46] then (5, 2, l.take 2)
    else if c.toNat = 123 ∨ c.toNat = 125 ∨ c.toNat = 43 ∨ c.toNat = 61 then (5, 1, l.take 1)
    else (6, 0, [])
/-- The tokens from a place on; the last one is none of kinds 1 to 5. -/
def strm : Nat → List UInt8 → Nat → List Tok
  | 0, _, _ => []
  | f + 1, l, p =>
    let q := skipN false l
    let t := tokL (l.drop q)
    ⟨t.1, p + q, t.2.2⟩ :: if t.1 ≤ 5 then strm f (l.drop (q + t.2.1)) (p + q + t.2.1) else []
end Go.Proofs.YtonbfcpbgkpbaaaDoor
end
section
/- A scope with labels: what holds from a label on. utf.stands, utf.badByte: their contracts. -/
namespace Go.Proofs.YtonbfcpbgkpbaaaDoor
open Go.RowKit
/-- From label l on, inside the scope of c, the run ends as Q says. -/
def On (P : Program) (c : Code) (Q : Exit → Act → World → Prop) (l : Nat) (a : Act) (w : World) : Prop :=
  ∃ rest, findLabel c l = some rest ∧ ∀ (b : Frame) (k : List Item) (cs : List Frame), ∃ e a' w', Q e a' w' ∧ Arrives P (lone (b.at a (.code rest :: .inScope c :: k)) cs w) b k cs e a' w'
/-- As Q; by a goto: as L says of its label. -/
def viaL (L : Nat → Act → World → Prop) (Q : Exit → Act → World → Prop) : Exit → Act → World → Prop
  | .goto l, a, w => L l a w
  | e, a, w => Q e a w
theorem viaL_goto (L : Nat → Act → World → Prop) (Q : Exit → Act → World → Prop) (l : Nat) (a : Act) (w : World) : viaL L Q (.goto l) a w = L l a w := rfl
theorem viaL_ret (L : Nat → Act → World → Prop) (Q : Exit → Act → World → Prop) (a : Act) (w : World) : viaL L Q .ret a w = Q .ret a w := rfl
theorem viaL_normal (L : Nat → Act → World → Prop) (Q : Exit → Act → World → Prop) (a : Act) (w : World) : viaL L Q .normal a w = Q .normal a w := rfl
theorem on_inner {P : Program} {c : Code} {Q : Exit → Act → World → Prop} {b : Frame} {k : List Item} {cs : List Frame} {x : Code} {a : Act} {w : World} (h : x.wp P (viaL (On P c Q) Q) a w) :
    ∃ e a' w', Q e a' w' ∧ Arrives P (lone (b.at a (.code x :: .inScope c :: k)) cs w) b k cs e a' w' := by
  obtain ⟨e, a₁, w₁, hq, harr⟩ := h b (.inScope c :: k) cs
  cases e with
  | normal => exact ⟨.normal, a₁, w₁, hq, Steps.trans harr (.one step_inScope)⟩
  | exit id => exact ⟨.exit id, a₁, w₁, hq, fun k' hk => harr k' (by simp [exitTo, hk])⟩
  | goto l =>
    obtain ⟨rest, hf, hr⟩ := hq
    obtain ⟨e₂, a₂, w₂, hq₂, harr₂⟩ := hr b k cs
    have hg : gotoIn l (.inScope c :: k) = some (.code rest :: .inScope c :: k) := by simp [gotoIn, hf]
    exact ⟨e₂, a₂, w₂, hq₂, .of_steps (harr _ hg) harr₂⟩
  | ret => exact ⟨_, a₁, w₁, hq, harr⟩
  | panic ch => exact ⟨_, a₁, w₁, hq, harr⟩
  | outgrown => exact ⟨_, a₁, w₁, hq, harr⟩
theorem on_enter {P : Program} {c : Code} {Q : Exit → Act → World → Prop} {a : Act} {w : World} (h : c.wp P (viaL (On P c Q) Q) a w) : (Code.scope c).wp P Q a w := by
  intro b k cs
  obtain ⟨e, a₁, w₁, hq, harr⟩ := on_inner (b := b) (k := k) (cs := cs) h
  exact ⟨e, a₁, w₁, hq, .of_steps (.one step_scope) harr⟩
theorem on_label {P : Program} {c rest : Code} {Q : Exit → Act → World → Prop} {l : Nat} {a : Act} {w : World} (hf : findLabel c l = some rest) (h : rest.wp P (viaL (On P c Q) Q) a w) : On P c Q l a w :=
  ⟨rest, hf, fun _ _ _ => on_inner h⟩
/-- A text's bytes. -/
abbrev tl (s : ByteArray) : List UInt8 := s.data.toList
theorem tl_len (s : ByteArray) : (tl s).length = s.size := by simp
set_option maxHeartbeats 400000 in
theorem stands_any (s : ByteArray) (i lo hi : Nat) (w : World) :
    Calls Tryd.prog 76 #[.string s, .int .i64 i, .int .u8 lo, .int .u8 hi] w fun e w' => e = .returned (.bool (stands (tl s) i lo hi)) ∧ w' = w := by
  unfold stands
  rw [tl_len]
  by_cases h3 : i < s.size
  · have hb : bt (tl s) i = (s[i]).toNat := by
      unfold bt
      rw [List.getD_eq_getElem?_getD, List.getElem?_eq_getElem (by simpa using h3)]
      rfl
    have hbb : (s[i]).toNat < 256 := UInt8.toNat_lt _
    rw [hb]
    have hd : decide (i < s.size) = true := by simpa using h3
    by_cases h4 : lo ≤ (s[i]).toNat
    · have hd4 : decide (lo ≤ (s[i]).toNat) = true := by simpa using h4
      by_cases h5 : (s[i]).toNat ≤ hi
      · have hd5 : decide ((s[i]).toNat ≤ hi) = true := by simpa using h5
        rw [hd, hd4, hd5]
        clear hd hd4 hd5 hb
        go_enter Tryd.func76, Tryd.ntmps76
        go_wp2
        go_ret
        exact ⟨rfl, rfl⟩
      · have hd5 : decide ((s[i]).toNat ≤ hi) = false := by simpa using h5
        rw [hd, hd4, hd5]
        clear hd hd4 hd5 hb
        go_enter Tryd.func76, Tryd.ntmps76
        go_wp2
        go_ret
        exact ⟨rfl, rfl⟩
    · have hd4 : decide (lo ≤ (s[i]).toNat) = false := by simpa using h4
      rw [hd, hd4]
      clear hd hd4 hb
      go_enter Tryd.func76, Tryd.ntmps76
      go_wp2
      go_ret
      exact ⟨rfl, rfl⟩
  · have hd : decide (i < s.size) = false := by simpa using h3
    rw [hd]
    clear hd
    go_enter Tryd.func76, Tryd.ntmps76
    go_wp2
    go_ret
    exact ⟨rfl, rfl⟩
end Go.Proofs.YtonbfcpbgkpbaaaDoor
end
section
/- strings.IndexByte, HasPrefix, TrimPrefix; recipe's predicates of bytes: their contracts. -/
namespace Go.Proofs.YtonbfcpbgkpbaaaDoor
open Go.RowKit
set_option linter.unusedVariables false
set_option maxRecDepth 100000
set_option maxHeartbeats 1000000 in
theorem liteIndex_any (s : ByteArray) (c : Int) (w : World) :
    Calls Tryd.prog 83 #[.string s, .int .u8 c] w fun e w' => e = .returned (.int .i64 (Lib.indexByte s.data.toList c.toNat.toUInt8)) ∧ w' = w := by
  go_enter Tryd.func83, Tryd.ntmps83
  go_wp2
  rw [run_callFunc_extern Tryd.func94 (by kernel_rfl) (by kernel_rfl) (by kernel_rfl) (e := Extern.BytealgIndexByte.indexByte) (by kernel_rfl), Lib.run_indexByteString]
  simp only [Result.andThen]
  rw [Oper.upon_value]
  go_wp2
  go_ret
  exact ⟨rfl, rfl⟩
theorem indexByte_any (s : ByteArray) (c : Int) (w : World) :
    Calls Tryd.prog 68 #[.string s, .int .u8 c] w fun e w' => e = .returned (.int .i64 (Lib.indexByte s.data.toList c.toNat.toUInt8)) ∧ w' = w := by
  go_enter Tryd.func68, Tryd.ntmps68
  go_wp2_with (go_at_call 83; refine (liteIndex_any _ _ _).mono ?_; rintro e w' ⟨rfl, rfl⟩)
  go_ret
  exact ⟨rfl, rfl⟩
/-- What is read at a place: -1 behind the end. -/
def hereI (l : List UInt8) (k : Nat) : Int := match l[k]? with
  | none => -1
  | some c => (c.toNat : Int)
def oneI (c : Int) (s : ByteArray) : Bool := !(c == -1) && decide (0 ≤ Lib.indexByte s.data.toList c.toNat.toUInt8)
theorem isOneOf_any (c : Int) (s : ByteArray) (hc : -1 ≤ c) (hc2 : c ≤ 255) (w : World) :
    Calls Tryd.prog 63 #[.int .i64 c, .string s] w fun e w' => e = .returned (.bool (oneI c s)) ∧ w' = w := by
  unfold oneI
  by_cases h : c = -1
  · subst h
    go_enter Tryd.func63, Tryd.ntmps63
    go_wp2_with fail
    go_ret
    exact ⟨rfl, rfl⟩
  · have h1 : (c == -1) = false := by simpa using h
    have h2 : (c != -1) = true := by simpa using h
    have h3 : 0 ≤ c := by omega
    rw [h1]
    go_enter Tryd.func63, Tryd.ntmps63
    go_wp2_with (go_at_call 68; refine (indexByte_any _ _ _).mono ?_; rintro e w' ⟨rfl, rfl⟩)
    go_ret
    exact ⟨rfl, rfl⟩
theorem isSmall_any (c : Int) (w : World) :
    Calls Tryd.prog 60 #[.int .i64 c] w fun e w' => e = .returned (.bool (decide (97 ≤ c) && decide (c ≤ 122))) ∧ w' = w := by
  by_cases h : 97 ≤ c
  · have h1 : decide (97 ≤ c) = true := decide_eq_true h
    rw [h1]
    go_enter Tryd.func60, Tryd.ntmps60
    go_wp2_with fail
    go_ret
    exact ⟨rfl, rfl⟩
  · have h1 : decide (97 ≤ c) = false := decide_eq_false h
    rw [h1]
    go_enter Tryd.func60, Tryd.ntmps60
    go_wp2_with fail
    go_ret
    exact ⟨rfl, rfl⟩
theorem isDigit_any (c : Int) (w : World) :
    Calls Tryd.prog 61 #[.int .i64 c] w fun e w' => e = .returned (.bool (decide (48 ≤ c) && decide (c ≤ 57))) ∧ w' = w := by
  by_cases h : 48 ≤ c
  · have h1 : decide (48 ≤ c) = true := decide_eq_true h
    rw [h1]
    go_enter Tryd.func61, Tryd.ntmps61
    go_wp2_with fail
    go_ret
    exact ⟨rfl, rfl⟩
  · have h1 : decide (48 ≤ c) = false := decide_eq_false h
    rw [h1]
    go_enter Tryd.func61, Tryd.ntmps61
    go_wp2_with fail
    go_ret
    exact ⟨rfl, rfl⟩
theorem isShown_any (c : Int) (w : World) :
    Calls Tryd.prog 32 #[.int .i64 c] w fun e w' => e = .returned (.bool (decide (32 ≤ c) && decide (c ≤ 126))) ∧ w' = w := by
  by_cases h : 32 ≤ c
  · have h1 : decide (32 ≤ c) = true := decide_eq_true h
    rw [h1]
    go_enter Tryd.func32, Tryd.ntmps32
    go_wp2_with fail
    go_ret
    exact ⟨rfl, rfl⟩
  · have h1 : decide (32 ≤ c) = false := decide_eq_false h
    rw [h1]
    go_enter Tryd.func32, Tryd.ntmps32
    go_wp2_with fail
    go_ret
    exact ⟨rfl, rfl⟩
def onI (c : Int) : Bool := (decide (97 ≤ c) && decide (c ≤ 122)) || (decide (65 ≤ c) && decide (c ≤ 90)) || (decide (48 ≤ c) && decide (c ≤ 57)) || (c == 95)
set_option maxHeartbeats 1000000 in
theorem goesOn_any (c : Int) (w : World) :
    Calls Tryd.prog 65 #[.int .i64 c] w fun e w' => e = .returned (.bool (onI c)) ∧ w' = w := by
  have H1 := fun wx => isSmall_any c wx
  have H2 := fun wx => isDigit_any c wx
  have HO : Hid (onI c = ((decide (97 ≤ c) && decide (c ≤ 122)) || (decide (65 ≤ c) && decide (c ≤ 90)) || (decide (48 ≤ c) && decide (c ≤ 57)) || (c == 95))) := rfl
  obtain ⟨bS, hS⟩ : ∃ b, b = (decide (97 ≤ c) && decide (c ≤ 122)) := ⟨_, rfl⟩
  obtain ⟨bD, hD⟩ : ∃ b, b = (decide (48 ≤ c) && decide (c ≤ 57)) := ⟨_, rfl⟩
  rw [← hS] at H1
  rw [← hD] at H2
  have HS := Lib.hid hS
  have HD := Lib.hid hD
  clear hS hD
  cases bS with
  | true =>
    go_enter Tryd.func65, Tryd.ntmps65
    go_wp2_with fail
    refine (H1 _).mono ?_
    rintro e w1 ⟨rfl, rfl⟩
    go_wp2_with fail
    go_ret
    exact ⟨by rw [HO.out, ← HS.out]; rfl, rfl⟩
  | false =>
    by_cases h1 : 65 ≤ c
    · by_cases h2 : c ≤ 90
      · have d1 : decide (65 ≤ c) = true := decide_eq_true h1
        have d2 : decide (c ≤ 90) = true := decide_eq_true h2
        have HB : Hid (onI c = true) := Lib.hid (by rw [HO.out, d1, d2]; simp)
        go_enter Tryd.func65, Tryd.ntmps65
        go_wp2_with fail
        refine (H1 _).mono ?_
        rintro e w1 ⟨rfl, rfl⟩
        go_wp2_with fail
        go_ret
        exact ⟨by rw [HB.out]; rfl, rfl⟩
      · have d1 : decide (65 ≤ c) = true := decide_eq_true h1
        have d2 : decide (c ≤ 90) = false := decide_eq_false h2
        have HB : Hid (onI c = (bD || (c == 95))) := Lib.hid (by rw [HO.out, d1, d2, ← HS.out, ← HD.out]; simp)
        cases bD with
        | true =>
          go_enter Tryd.func65, Tryd.ntmps65
          go_wp2_with fail
          refine (H1 _).mono ?_
          rintro e w1 ⟨rfl, rfl⟩
          go_wp2_with fail
          refine (H2 _).mono ?_
          rintro e w1 ⟨rfl, rfl⟩
          go_wp2_with fail
          go_ret
          exact ⟨by rw [HB.out]; rfl, rfl⟩
        | false =>
          go_enter Tryd.func65, Tryd.ntmps65
          go_wp2_with fail
          refine (H1 _).mono ?_
          rintro e w1 ⟨rfl, rfl⟩
          go_wp2_with fail
          refine (H2 _).mono ?_
          rintro e w1 ⟨rfl, rfl⟩
          go_wp2_with fail
          go_ret
          exact ⟨by rw [HB.out]; rfl, rfl⟩
    · have d1 : decide (65 ≤ c) = false := decide_eq_false h1
      have HB : Hid (onI c = (bD || (c == 95))) := Lib.hid (by rw [HO.out, d1, ← HS.out, ← HD.out]; simp)
      cases bD with
      | true =>
        go_enter Tryd.func65, Tryd.ntmps65
        go_wp2_with fail
        refine (H1 _).mono ?_
        rintro e w1 ⟨rfl, rfl⟩
        go_wp2_with fail
        refine (H2 _).mono ?_
        rintro e w1 ⟨rfl, rfl⟩
        go_wp2_with fail
        go_ret
        exact ⟨by rw [HB.out]; rfl, rfl⟩
      | false =>
        go_enter Tryd.func65, Tryd.ntmps65
        go_wp2_with fail
        refine (H1 _).mono ?_
        rintro e w1 ⟨rfl, rfl⟩
        go_wp2_with fail
        refine (H2 _).mono ?_
        rintro e w1 ⟨rfl, rfl⟩
        go_wp2_with fail
        go_ret
        exact ⟨by rw [HB.out]; rfl, rfl⟩
end Go.Proofs.YtonbfcpbgkpbaaaDoor
end
section
/- recipe's digits, runes; strings.HasPrefix, TrimPrefix: their contracts. -/
namespace Go.Proofs.YtonbfcpbgkpbaaaDoor
open Go.RowKit
set_option linter.unusedVariables false
set_option maxRecDepth 100000
def lowS : ByteArray := { data := #[48, 49, 50, 51, 52, 53, 54, 55, 56, 57, 97, 98, 99, 100, 101, 102] }
def capS : ByteArray := { data := #[48, 49, 50, 51, 52, 53, 54, 55, 56, 57, 65, 66, 67, 68, 69, 70] }
theorem low_all : ∀ n : Fin 256, Lib.indexByte lowS.data.toList (UInt8.ofNat n.val) = if lowB (UInt8.ofNat n.val) = true then (digV (UInt8.ofNat n.val) : Int) else -1 := by decide +kernel
theorem cap_all : ∀ n : Fin 256, Lib.indexByte capS.data.toList (UInt8.ofNat n.val) = if capB (UInt8.ofNat n.val) = true then (digV (UInt8.ofNat n.val) : Int) else -1 := by decide +kernel
theorem low_index (c : UInt8) : Lib.indexByte lowS.data.toList c = if lowB c = true then (digV c : Int) else -1 := by
  have := low_all ⟨c.toNat, UInt8.toNat_lt c⟩
  simpa using this
theorem cap_index (c : UInt8) : Lib.indexByte capS.data.toList c = if capB c = true then (digV c : Int) else -1 := by
  have := cap_all ⟨c.toNat, UInt8.toNat_lt c⟩
  simpa using this
theorem digV_all : ∀ n : Fin 256, (lowB (UInt8.ofNat n.val) = true ∨ capB (UInt8.ofNat n.val) = true) → digV (UInt8.ofNat n.val) < 16 := by decide +kernel
theorem digV_lt {c : UInt8} (h : lowB c = true ∨ capB c = true) : digV c < 16 := by
  have := digV_all ⟨c.toNat, UInt8.toNat_lt c⟩
  simp only [UInt8.ofNat_toNat] at this
  exact this h
theorem byte_back (c : UInt8) : ((c.toNat : Int)).toNat.toUInt8 = c := by simp
theorem index_low (c : UInt8) (h : lowB c = true) (w : World) :
    Calls Tryd.prog 68 #[.string { data := #[48, 49, 50, 51, 52, 53, 54, 55, 56, 57, 97, 98, 99, 100, 101, 102] }, .int .u8 (c.toNat : Int)] w fun e w' => e = .returned (.int .i64 (digV c : Int)) ∧ w' = w := by
  have := indexByte_any lowS (c.toNat : Int) w
  rw [byte_back, low_index, if_pos h] at this
  exact this
theorem index_cap (c : UInt8) (h : capB c = true) (w : World) :
    Calls Tryd.prog 68 #[.string { data := #[48, 49, 50, 51, 52, 53, 54, 55, 56, 57, 65, 66, 67, 68, 69, 70] }, .int .u8 (c.toNat : Int)] w fun e w' => e = .returned (.int .i64 (digV c : Int)) ∧ w' = w := by
  have := indexByte_any capS (c.toNat : Int) w
  rw [byte_back, cap_index, if_pos h] at this
  exact this
theorem oneI_low (c : UInt8) : oneI (c.toNat : Int) lowS = lowB c := by
  unfold oneI
  rw [byte_back, low_index]
  have : ((c.toNat : Int) == -1) = false := by simp
  rw [this]
  by_cases h : lowB c = true
  · rw [if_pos h, h]; simp
  · rw [if_neg h]; simp at h; rw [h]; rfl
theorem oneI_cap (c : UInt8) : oneI (c.toNat : Int) capS = capB c := by
  unfold oneI
  rw [byte_back, cap_index]
  have : ((c.toNat : Int) == -1) = false := by simp
  rw [this]
  by_cases h : capB c = true
  · rw [if_pos h, h]; simp
  · rw [if_neg h]; simp at h; rw [h]; rfl
def blankS : ByteArray := { data := #[9, 10, 13, 32] }
def signS : ByteArray := { data := #[123, 125, 43, 61] }
theorem blank_all : ∀ n : Fin 256, decide (0 ≤ Lib.indexByte blankS.data.toList (UInt8.ofNat n.val)) = blnkB (UInt8.ofNat n.val) := by decide +kernel
theorem sign_all : ∀ n : Fin 256, decide (0 ≤ Lib.indexByte signS.data.toList (UInt8.ofNat n.val)) = decide ((UInt8.ofNat n.val).toNat = 123 ∨ (UInt8.ofNat n.val).toNat = 125 ∨ (UInt8.ofNat n.val).toNat = 43 ∨ (UInt8.ofNat n.val).toNat = 61) := by decide +kernel
theorem oneI_blank (c : UInt8) : oneI (c.toNat : Int) blankS = blnkB c := by
  unfold oneI
  rw [byte_back]
  have := blank_all ⟨c.toNat, UInt8.toNat_lt c⟩
  simp only [UInt8.ofNat_toNat] at this
  rw [this]
  have : ((c.toNat : Int) == -1) = false := by simp
  rw [this]
  rfl
theorem oneI_sign (c : UInt8) : oneI (c.toNat : Int) signS = decide (c.toNat = 123 ∨ c.toNat = 125 ∨ c.toNat = 43 ∨ c.toNat = 61) := by
  unfold oneI
  rw [byte_back]
  have := sign_all ⟨c.toNat, UInt8.toNat_lt c⟩
  simp only [UInt8.ofNat_toNat] at this
  rw [this]
  have : ((c.toNat : Int) == -1) = false := by simp
  rw [this]
  rfl
theorem or_all : ∀ a b : Fin 16, bits BinOp.or IntKind.i64 (((a.val : Nat) : Int) * 16) ((b.val : Nat) : Int) = ((a.val * 16 + b.val : Nat) : Int) := by decide +kernel
theorem or_four {a b : Nat} (ha : a < 16) (hb : b < 16) : bits BinOp.or IntKind.i64 ((a : Int) * 16) (b : Int) = ((a * 16 + b : Nat) : Int) := or_all ⟨a, ha⟩ ⟨b, hb⟩
set_option maxHeartbeats 1000000 in
theorem byteOf_any (h c : UInt8) (hh : lowB h = true) (hc : lowB c = true) (w : World) :
    Calls Tryd.prog 79 #[.int .i64 (h.toNat : Int), .int .i64 (c.toNat : Int)] w fun e w' => e = .returned (.int .i64 ((byteV h c).toNat : Int)) ∧ w' = w := by
  have b1 : h.toNat < 256 := UInt8.toNat_lt _
  have b2 : c.toNat < 256 := UInt8.toNat_lt _
  have H1 := fun wx => index_low h hh wx
  have H2 := fun wx => index_low c hc wx
  have d1 := digV_lt (.inl hh)
  have d2 := digV_lt (.inl hc)
  go_enter Tryd.func79, Tryd.ntmps79
  go_wp2_with fail
  refine (H1 _).mono ?_
  rintro e w1 ⟨rfl, rfl⟩
  go_wp2_with fail
  refine (H2 _).mono ?_
  rintro e w1 ⟨rfl, rfl⟩
  go_wp2_with fail
  go_ret
  refine ⟨?_, rfl⟩
  have e : (byteV h c).toNat = digV h * 16 + digV c := by
    unfold byteV
    rw [UInt8.toNat_ofNat']
    omega
  rw [e, ← or_four d1 d2]
  rfl
end Go.Proofs.YtonbfcpbgkpbaaaDoor
end
section
/- recipe's valueOf, isScalar, isRune; strings.HasPrefix, TrimPrefix; slices.Contains of texts: their contracts. -/
namespace Go.Proofs.YtonbfcpbgkpbaaaDoor
open Go.RowKit Go.Joins
set_option linter.unusedVariables false
set_option maxRecDepth 100000
theorem valF_snoc (b n : Nat) (l : List UInt8) (c : UInt8) : valF b n (l ++ [c]) = valF b n l * b + digV c := by
  induction l generalizing n with
  | nil => rfl
  | cons x l ih => exact ih _
theorem valF_lt {b : Nat} (hb : b ≤ 16) : ∀ (l : List UInt8) (n : Nat), (∀ c ∈ l, capB c = true) → valF b n l + 1 ≤ (n + 1) * 16 ^ l.length := by
  intro l
  induction l with
  | nil => intro n _; simp [valF]
  | cons x l ih =>
    intro n h
    have h1 := ih (n * b + digV x) (fun c hc => h c (List.mem_cons_of_mem _ hc))
    have h2 := digV_lt (.inr (h x List.mem_cons_self))
    have h3 : n * b ≤ n * 16 := Nat.mul_le_mul_left _ hb
    have h4 : (n * b + digV x + 1) * 16 ^ l.length ≤ ((n + 1) * 16) * 16 ^ l.length := Nat.mul_le_mul_right _ (by omega)
    have h5 : (n + 1) * 16 ^ (x :: l).length = ((n + 1) * 16) * 16 ^ l.length := by rw [List.length_cons, Nat.pow_succ, Nat.mul_comm (16 ^ l.length) 16, Nat.mul_assoc]
    rw [h5]
    exact Nat.le_trans h1 h4
theorem valF_small {b : Nat} (hb : b ≤ 16) {l : List UInt8} (h : ∀ c ∈ l, capB c = true) (hl : l.length ≤ 10) : valF b 0 l < 1099511627776 := by
  have h1 := valF_lt hb l 0 h
  have h2 : 16 ^ l.length ≤ 16 ^ 10 := Nat.pow_le_pow_right (by decide) hl
  have h3 : 16 ^ 10 = 1099511627776 := by decide
  omega
theorem valF_six {b : Nat} (hb : b ≤ 16) {l : List UInt8} (h : ∀ c ∈ l, capB c = true) (hl : l.length ≤ 6) : valF b 0 l < 16777216 := by
  have h1 := valF_lt hb l 0 h
  have h2 : 16 ^ l.length ≤ 16 ^ 6 := Nat.pow_le_pow_right (by decide) hl
  have h3 : 16 ^ 6 = 16777216 := by decide
  omega
theorem bytesWorld_below (w : World) (s : ByteArray) : Below w.heap.size w (Lib.bytesWorld w 5 s) :=
  Lib.below_freeze (((Below.refl w.heap.size w).drew).alloc (Nat.le_refl _) _) (p := ⟨w.heap.size, (Lib.bytesCells w 5 s).size, none⟩) (Nat.le_refl _) 1
set_option maxHeartbeats 1000000 in
theorem valueOf_any (s : ByteArray) (base : Nat) (hb : base ≤ 16) (hl : s.size ≤ 10) (hc : ∀ c ∈ tl s, capB c = true) (w : World) :
    Calls Tryd.prog 44 #[.string s, .int .i64 (base : Nat)] w fun e w' => e = .returned (.int .i64 (valF base 0 (tl s) : Nat)) ∧ Below w.heap.size w w' := by
  have hcv := Lib.run_convert_string_bytes (P := Tryd.prog) w 9 35 5 s Tryd.underlying9 Tryd.underlying35 Tryd.underlying5
  have hcell := Lib.bytesWorld_cell w 5 s
  have hbl := bytesWorld_below w s
  obtain ⟨W, hW⟩ : ∃ W, W = Lib.bytesWorld w 5 s := ⟨_, rfl⟩
  rw [← hW] at hcv hcell hbl
  obtain ⟨z, hz⟩ : ∃ z, z = w.heap.size := ⟨_, rfl⟩
  rw [← hz] at hcv hcell
  have HC := Lib.hid hcell
  clear hW hcell hz
  go_enter Tryd.func44, Tryd.ntmps44
  go_wp2_with fail
  go_loop [5, 11] (fun n i => ∃ k : Nat, k ≤ s.size ∧ i = .int .i64 (k : Nat) ∧ n = .int .i64 (valF base 0 ((tl s).take k) : Nat)) (fun _ i => s.size - (intOf i).toNat)
  case atStart => exact ⟨0, Nat.zero_le _, rfl, rfl⟩
  case round =>
    obtain ⟨k, hk, rfl, rfl⟩ := hrel
    by_cases hlt : k < s.size
    · have hkl : k < (tl s).length := by simpa using hlt
      have hs : (tl s).take (k + 1) = (tl s).take k ++ [(tl s)[k]] := by rw [List.take_succ_eq_append_getElem hkl]
      have hcap : capB ((tl s)[k]) = true := hc _ (List.getElem_mem hkl)
      have ck := HC.out k hlt
      rw [show s.data.toList.getD k 0 = (tl s)[k] by simp [List.getD, hlt]] at ck
      have HI := fun wx => index_cap ((tl s)[k]) hcap wx
      have hv := valF_small (b := base) hb (l := (tl s).take k) (fun c hcc => hc c (List.mem_of_mem_take hcc)) (by simp; omega)
      have hd := digV_lt (.inr hcap)
      have hb8 : ((tl s)[k]).toNat < 256 := UInt8.toNat_lt _
      have hsn : valF base 0 ((tl s).take (k + 1)) = valF base 0 ((tl s).take k) * base + digV ((tl s)[k]) := by rw [hs, valF_snoc]
      obtain ⟨v, hvv⟩ : ∃ v, v = valF base 0 ((tl s).take k) := ⟨_, rfl⟩
      rw [← hvv] at hv hsn
      have hvb : v * base ≤ 1099511627776 * 16 := Nat.mul_le_mul (by omega) hb
      have hvi : (v : Int) * (base : Int) = ((v * base : Nat) : Int) := by simp
      obtain ⟨vb, hvb2⟩ : ∃ vb, vb = v * base := ⟨_, rfl⟩
      rw [← hvb2] at hvb hvi hsn
      have HVI := Lib.hid hvi
      have HSN := Lib.hid hsn
      obtain ⟨c, hcc⟩ : ∃ c, c = (tl s)[k] := ⟨_, rfl⟩
      rw [← hcc] at ck HI hd hb8
      have HCC := Lib.hid hcc
      rw [← hvv]
      have hw1 : ((v : Int) * (base : Int)) ≤ 17592186044416 := by rw [hvi]; omega
      have hw0 : 0 ≤ ((v : Int) * (base : Int)) := by rw [hvi]; omega
      clear hs hcap hvv hvb2 hvi hsn hcc
      go_wp2_with fail
      refine (HI _).mono ?_
      rintro e w1 ⟨rfl, rfl⟩
      go_wp2_with fail
      go_round
      case rel => exact ⟨k + 1, by omega, by go_num, by rw [HSN.out, ← HCC.out]; have := HVI.out; go_num⟩
      case measure => simp [intOf]; omega
    · have hkk : k = s.size := by omega
      subst hkk
      have hE : Hid ((tl s).take s.size = tl s) := Lib.hid (List.take_of_length_le (by simp))
      go_wp2_with fail
      go_ret
      exact ⟨by rw [hE.out]; rfl, hbl⟩
end Go.Proofs.YtonbfcpbgkpbaaaDoor
end
section
/- recipe's isScalar, isRune; strings.HasPrefix, TrimPrefix; slices.Contains of texts: their contracts. -/
namespace Go.Proofs.YtonbfcpbgkpbaaaDoor
open Go.RowKit Go.Joins
set_option linter.unusedVariables false
set_option maxRecDepth 100000
theorem scalar_any (n : Int) (h0 : 0 ≤ n) (w : World) :
    Calls Tryd.prog 29 #[.int .i32 n] w fun e w' => e = .returned (.bool (decide (n ≤ 55295) || (decide (57344 ≤ n) && decide (n ≤ 1114111)))) ∧ w' = w := by
  have d0 : decide (0 ≤ n) = true := decide_eq_true h0
  by_cases h1 : n ≤ 55295
  · have d1 : decide (n ≤ 55295) = true := decide_eq_true h1
    rw [d1]
    go_enter Tryd.func29, Tryd.ntmps29
    go_wp2_with fail
    go_ret
    exact ⟨rfl, rfl⟩
  · have d1 : decide (n ≤ 55295) = false := decide_eq_false h1
    by_cases h2 : 57344 ≤ n
    · have d2 : decide (57344 ≤ n) = true := decide_eq_true h2
      rw [d1, d2]
      go_enter Tryd.func29, Tryd.ntmps29
      go_wp2_with fail
      go_ret
      exact ⟨rfl, rfl⟩
    · have d2 : decide (57344 ≤ n) = false := decide_eq_false h2
      rw [d1, d2]
      go_enter Tryd.func29, Tryd.ntmps29
      go_wp2_with fail
      go_ret
      exact ⟨rfl, rfl⟩
theorem scalar_nat (n : Nat) (w : World) :
    Calls Tryd.prog 29 #[.int .i32 (n : Nat)] w fun e w' => e = .returned (.bool (scalarB n)) ∧ w' = w := by
  have h := scalar_any (n : Int) (by omega) w
  have e : scalarB n = (decide ((n : Int) ≤ 55295) || (decide (57344 ≤ (n : Int)) && decide ((n : Int) ≤ 1114111))) := by
    unfold scalarB
    rw [Bool.eq_iff_iff]; simp; omega
  rw [e]
  exact h
theorem litePre_any (s p : ByteArray) (hs : s.size ≤ 9223372036854775807) (w : World) :
    Calls Tryd.prog 69 #[.string s, .string p] w fun e w' => e = .returned (.bool (decide (p.size ≤ s.size) && ((s.extract 0 p.size).toList == p.toList))) ∧ w' = w := by
  by_cases h : p.size ≤ s.size
  · have d : decide (p.size ≤ s.size) = true := decide_eq_true h
    have hs : p.size ≤ 9223372036854775807 := by omega
    rw [d]
    go_enter Tryd.func69, Tryd.ntmps69
    go_wp2_with fail
    go_ret
    exact ⟨rfl, rfl⟩
  · have d : decide (p.size ≤ s.size) = false := decide_eq_false h
    rw [d]
    go_enter Tryd.func69, Tryd.ntmps69
    go_wp2_with fail
    go_ret
    exact ⟨rfl, rfl⟩
def preB (s p : ByteArray) : Bool := decide (p.size ≤ s.size) && ((s.extract 0 p.size).toList == p.toList)
theorem preB_iff (s p : ByteArray) : preB s p = true ↔ (tl s).take p.size = tl p := by
  unfold preB
  rw [Bool.and_eq_true, decide_eq_true_eq, beq_iff_eq]
  rw [Lib.toList_data, Lib.toList_data]
  constructor
  · rintro ⟨h1, h2⟩
    simpa using h2
  · intro h
    have h1 : p.size ≤ s.size := by
      have := congrArg List.length h
      simp at this
      omega
    refine ⟨h1, ?_⟩
    simpa using h
theorem prefix_any (s p : ByteArray) (hs : s.size ≤ 9223372036854775807) (w : World) :
    Calls Tryd.prog 80 #[.string s, .string p] w fun e w' => e = .returned (.bool (preB s p)) ∧ w' = w := by
  have H := litePre_any s p hs
  rw [show (decide (p.size ≤ s.size) && ((s.extract 0 p.size).toList == p.toList)) = preB s p from rfl] at H
  go_enter Tryd.func80, Tryd.ntmps80
  go_wp2_with fail
  refine (H _).mono ?_
  rintro e w1 ⟨rfl, rfl⟩
  go_wp2_with fail
  go_ret
  exact ⟨rfl, rfl⟩
def trimB (s p : ByteArray) : ByteArray := if preB s p = true then s.extract p.size s.size else s
theorem liteTrim_any (s p : ByteArray) (hs : s.size ≤ 9223372036854775807) (w : World) :
    Calls Tryd.prog 93 #[.string s, .string p] w fun e w' => e = .returned (.string (trimB s p)) ∧ w' = w := by
  have H := litePre_any s p hs
  rw [show (decide (p.size ≤ s.size) && ((s.extract 0 p.size).toList == p.toList)) = preB s p from rfl] at H
  unfold trimB
  by_cases h : preB s p = true
  · have h1 : p.size ≤ s.size := by
      unfold preB at h
      rw [Bool.and_eq_true, decide_eq_true_eq] at h
      exact h.1
    rw [if_pos h]
    rw [h] at H
    clear h
    go_enter Tryd.func93, Tryd.ntmps93
    go_wp2_with fail
    refine (H _).mono ?_
    rintro e w1 ⟨rfl, rfl⟩
    go_wp2_with fail
    go_ret
    exact ⟨rfl, rfl⟩
  · rw [if_neg h]
    have h : preB s p = false := by simpa using h
    rw [h] at H
    clear h
    go_enter Tryd.func93, Tryd.ntmps93
    go_wp2_with fail
    refine (H _).mono ?_
    rintro e w1 ⟨rfl, rfl⟩
    go_wp2_with fail
    go_ret
    exact ⟨rfl, rfl⟩
theorem trim_any (s p : ByteArray) (hs : s.size ≤ 9223372036854775807) (w : World) :
    Calls Tryd.prog 82 #[.string s, .string p] w fun e w' => e = .returned (.string (trimB s p)) ∧ w' = w := by
  have H := liteTrim_any s p hs
  go_enter Tryd.func82, Tryd.ntmps82
  go_wp2_with fail
  refine (H _).mono ?_
  rintro e w1 ⟨rfl, rfl⟩
  go_wp2_with fail
  go_ret
  exact ⟨rfl, rfl⟩
set_option maxHeartbeats 1000000 in
theorem isRune_any (s : ByteArray) (hs : s.size ≤ 9223372036854775807) (hc : ∀ c ∈ tl s, capB c = true) (w : World) :
    Calls Tryd.prog 64 #[.string s] w fun e w' => e = .returned (.bool (runeDB (tl s))) ∧ Below w.heap.size w w' := by
  have HR : Hid (runeDB (tl s) = (decide (4 ≤ s.size) && decide (s.size ≤ 6) && (decide (s.size ≤ 4) || ((tl s).headD 0).toNat != 48) && scalarB (valF 16 0 (tl s)))) := Lib.hid (by unfold runeDB; rw [tl_len])
  by_cases h4 : s.size < 4
  · have HB : Hid (runeDB (tl s) = false) := Lib.hid (by rw [HR.out, show decide (4 ≤ s.size) = false from decide_eq_false (by omega)]; rfl)
    rw [HB.out]
    have d : decide ((s.size : Int) < 4) = true := decide_eq_true (by omega)
    go_enter Tryd.func64, Tryd.ntmps64
    go_wp2_with fail
    go_ret
    exact ⟨rfl, Below.refl _ _⟩
  · have d : decide ((s.size : Int) < 4) = false := decide_eq_false (by omega)
    have e4 : decide (4 ≤ s.size) = true := decide_eq_true (by omega)
    by_cases h6 : 6 < s.size
    · have HB : Hid (runeDB (tl s) = false) := Lib.hid (by rw [HR.out, show decide (s.size ≤ 6) = false from decide_eq_false (by omega)]; simp)
      rw [HB.out]
      have d6 : decide ((s.size : Int) > 6) = true := decide_eq_true (by omega)
      have d7 : decide ((6 : Int) < (s.size : Int)) = true := decide_eq_true (by omega)
      clear e4
      go_enter Tryd.func64, Tryd.ntmps64
      go_wp2_with fail
      go_ret
      exact ⟨rfl, Below.refl _ _⟩
    · have d7 : decide ((6 : Int) < (s.size : Int)) = false := decide_eq_false (by omega)
      have e6 : decide (s.size ≤ 6) = true := decide_eq_true (by omega)
      have hv := valF_six (b := 16) (by omega) hc (by rw [tl_len]; omega)
      have HV := fun wx => valueOf_any s 16 (by omega) (by omega) hc wx
      have HS := fun wx => scalar_nat (valF 16 0 (tl s)) wx
      obtain ⟨v, hvv⟩ : ∃ v, v = valF 16 0 (tl s) := ⟨_, rfl⟩
      rw [← hvv] at hv HV HS
      have hw : wrap32 (v : Int) = (v : Int) := by unfold wrap32; omega
      have HVV := Lib.hid hvv
      clear hvv
      by_cases h5 : 4 < s.size
      · have d5 : decide ((4 : Int) < (s.size : Int)) = true := decide_eq_true (by omega)
        have e5 : decide (s.size ≤ 4) = false := decide_eq_false (by omega)
        have hh : ((tl s).headD 0).toNat = (s[0]'(by omega)).toNat := by
          have hl : 0 < (tl s).length := by simp; omega
          cases ht : tl s with
          | nil => rw [ht] at hl; simp at hl
          | cons a l =>
            have : s[0]'(by omega) = (tl s)[0] := rfl
            rw [this]
            simp [ht]
        by_cases hz : (s[0]'(by omega)).toNat = 48
        · have HB : Hid (runeDB (tl s) = false) := Lib.hid (by rw [HR.out, e5, hh, hz]; simp)
          rw [HB.out]
          have hzz : (((s[0]'(by omega)).toNat : Int) == 48) = true := by simp [hz]
          clear e4 e6 e5 hh hz
          go_enter Tryd.func64, Tryd.ntmps64
          go_wp2_with fail
          go_ret
          exact ⟨rfl, Below.refl _ _⟩
        · have HB : Hid (runeDB (tl s) = scalarB v) := Lib.hid (by rw [HR.out, e5, e4, e6, hh, HVV.out]; simp [hz])
          rw [HB.out]
          have hzz : (((s[0]'(by omega)).toNat : Int) == 48) = false := by simp; omega
          clear e4 e6 e5 hh hz
          go_enter Tryd.func64, Tryd.ntmps64
          go_wp2_with fail
          refine (HV _).mono ?_
          rintro e w1 ⟨rfl, hb⟩
          go_wp2_with fail
          refine (HS _).mono ?_
          rintro e w2 ⟨rfl, rfl⟩
          go_wp2_with fail
          go_ret
          exact ⟨rfl, hb⟩
      · have d5 : decide ((4 : Int) < (s.size : Int)) = false := decide_eq_false (by omega)
        have e5 : decide (s.size ≤ 4) = true := decide_eq_true (by omega)
        have HB : Hid (runeDB (tl s) = scalarB v) := Lib.hid (by rw [HR.out, e5, e4, e6, HVV.out]; simp)
        rw [HB.out]
        clear e4 e6 e5
        go_enter Tryd.func64, Tryd.ntmps64
        go_wp2_with fail
        refine (HV _).mono ?_
        rintro e w1 ⟨rfl, hb⟩
        go_wp2_with fail
        refine (HS _).mono ?_
        rintro e w2 ⟨rfl, rfl⟩
        go_wp2_with fail
        go_ret
        exact ⟨rfl, hb⟩
end Go.Proofs.YtonbfcpbgkpbaaaDoor
end
section
/- Recipes: what a parser makes of tokens: the mathematics. -/
namespace Go.Proofs.YtonbfcpbgkpbaaaDoor
def zeroT : Tok := ⟨0, 0, []⟩
/-- A parser: has it refused? what stands next. -/
abbrev PS := Bool × List Tok
def mEmpty (k : Nat) (t : Tok) : Bool := t.k == k
def mOf (k : Nat) (ss : List (List UInt8)) (t : Tok) : Bool := t.k == k && ss.contains t.s
def meetP (m : Tok → Bool) (st : PS) : Bool := match st with
  | (false, t :: _) => m t
  | _ => false
def takeP (m : Tok → Bool) (st : PS) : Tok × PS := match st with
  | (false, t :: ts) => if m t = true then (t, (false, ts)) else (zeroT, (true, t :: ts))
  | (_, ts) => (zeroT, (true, ts))
/-- Where and why a token is refused, in a text of n bytes. -/
def refT (n : Nat) (t : Tok) : Nat × Nat := if t.k = 7 ∨ t.k = 8 then (n, 31) else (t.at', 30)
def sgn (l : List UInt8) : Tok → Bool := mOf 5 [l]
def sOpen : List UInt8 := [123]
def sShut : List UInt8 := [125]
def sPlus : List UInt8 := [43]
def sEq : List UInt8 := [61]
def sTo : List UInt8 := [46, 46]
def sMerge : List UInt8 := [109, 101, 114, 103, 101]
def sLetters : List UInt8 := [108, 101, 116, 116, 101, 114, 115]
def sNumbers : List UInt8 := [110, 117, 109, 98, 101, 114, 115]
def sSpaces : List UInt8 := [115, 112, 97, 99, 101, 115]
/-- A rune's value. -/
def runeV (s : List UInt8) : Nat := valF 16 0 (s.drop 2)
structure Wr where
  l : Tok
  r : Tok
  i : Tok
/-- What stands behind a merge's name. -/
def mergeP (st : PS) : Wr × PS :=
  let a := takeP (mEmpty 4) st
  let p := takeP (sgn sPlus) a.2
  let b := takeP (mEmpty 4) p.2
  let q := takeP (sgn sEq) b.2
  let c := takeP (mEmpty 2) q.2
  (⟨a.1, b.1, c.1⟩, c.2)
/-- One span. -/
def spanP (st : PS) : Sp × PS :=
  let a := takeP (mEmpty 3) st
  let lo := runeV a.1.s
  if meetP (sgn sTo) a.2 = true then
    let p := takeP (sgn sTo) a.2
    let b := takeP (mEmpty 3) p.2
    (⟨lo, runeV b.1.s⟩, b.2)
  else (⟨lo, lo⟩, a.2)
def spanF : Nat → PS → List Sp × PS
  | 0, st => ([], st)
  | f + 1, st => if meetP (mEmpty 3) st = true then
      let a := spanP st
      let r := spanF f a.2
      (a.1 :: r.1, r.2)
    else ([], st)
/-- What stands behind a class's name. -/
def spansP (st : PS) : List Sp × PS :=
  let p := takeP (sgn sOpen) st
  let r := spanF p.2.2.length p.2
  (r.1, (takeP (sgn sShut) r.2).2)
structure RD where
  M : List Wr
  A : List Sp
  B : List Sp
  C : List Sp
def nameM : Tok → Bool := mOf 1 [sMerge, sLetters, sNumbers, sSpaces]
def headK (st : PS) : Nat := match st.2 with
  | [] => 8
  | t :: _ => t.k
/-- One rule. -/
def ruleP (st : PS) (d : RD) : RD × PS :=
  let a := takeP nameM st
  if a.1.s = sMerge then let r := mergeP a.2; ({ d with M := d.M ++ [r.1] }, r.2)
  else if a.1.s = sLetters then let r := spansP a.2; ({ d with A := d.A ++ r.1 }, r.2)
  else if a.1.s = sNumbers then let r := spansP a.2; ({ d with B := d.B ++ r.1 }, r.2)
  else if a.1.s = sSpaces then let r := spansP a.2; ({ d with C := d.C ++ r.1 }, r.2)
  else (d, a.2)
def rulesF : Nat → PS → RD → RD × PS
  | 0, st, d => (d, st)
  | f + 1, st, d => if st.1 = false ∧ headK st ≠ 8 then let r := ruleP st d; rulesF f r.2 r.1 else (d, st)
/-- An id of a word: a byte's, or what was made last. -/
def idOfP (made : List (List UInt8 × Nat)) (w : List UInt8) : Option Nat :=
  match w with
  | [c] => some c.toNat
  | _ => (made.find? fun x => x.1 == w).map (·.2)
structure MD where
  W : List (List UInt8)
  made : List (List UInt8 × Nat)
  M : List Mg
/-- One merge's meaning: what is refused, or what is known behind it. -/
def meanP (x : Wr) (d : MD) : Except (Nat × Nat) MD :=
  match idOfP d.made x.l.s with
  | none => .error (x.l.at', 23)
  | some a => match idOfP d.made x.r.s with
    | none => .error (x.r.at', 23)
    | some b =>
      let v := valF 10 0 x.i.s
      if v < 256 ∨ d.W.length ≤ v - 256 ∨ d.W.getD (v - 256) [] ≠ [] then .error (x.i.at', 24)
      else .ok ⟨d.W.set (v - 256) (x.l.s ++ x.r.s), (x.l.s ++ x.r.s, v) :: d.made, d.M ++ [⟨a, b, v⟩]⟩
def meanF : List Wr → MD → Except (Nat × Nat) MD
  | [], d => .ok d
  | x :: l, d => match meanP x d with
    | .error e => .error e
    | .ok d' => meanF l d'
structure PD where
  W : List (List UInt8)
  M : List Mg
  A : List Sp
  B : List Sp
  C : List Sp
/-- What Parse answers: what is refused and at which byte, or the data. -/
def parseA (l : List UInt8) : Except (Nat × Nat) PD :=
  if 4194304 < l.length then .error (0, 3) else
  let ts := strm (l.length + 1) l 0
  let r := rulesF ts.length (false, ts) ⟨[], [], [], []⟩
  if r.2.1 = true then .error (match r.2.2 with | [] => (l.length, 31) | t :: _ => refT l.length t) else
  match meanF r.1.M ⟨List.replicate r.1.M.length [], [], []⟩ with
  | .error e => .error e
  | .ok d => .ok ⟨d.W, d.M, r.1.A, r.1.B, r.1.C⟩
end Go.Proofs.YtonbfcpbgkpbaaaDoor
end
section
/- recipe's parser in memory; its scanner's smallest calls. -/
namespace Go.Proofs.YtonbfcpbgkpbaaaDoor
open Go.RowKit Go.Sort Go.Joins
set_option linter.unusedVariables false
set_option maxRecDepth 100000
/-- What a parser holds. -/
structure PZ where
  src : ByteArray
  p : Nat
  k : Nat
  t : Nat
  s : ByteArray
  M : Value
  W0 : Value
  M0 : Value
  A : Value
  B : Value
  C : Value
  why : Nat
  at' : Nat
def PZ.cells (s : PZ) : Array Value := #[.string s.src, .int .i64 (s.p : Nat), .int .i64 (s.k : Nat), .int .i64 (s.t : Nat), .string s.s, s.M, s.W0, s.M0, s.A, s.B, s.C, .int .i64 (s.why : Nat), .int .i64 (s.at' : Nat)]
/-- A parser lies at block g. -/
def PB (w : World) (g : Nat) (s : PZ) : Prop := w.heap[g]? = some (.cells s.cells 64 (0, 0))
theorem PB.lt {w : World} {g : Nat} {s : PZ} (h : PB w g s) : g < w.heap.size := (Array.getElem?_eq_some_iff.1 h).1
theorem PB.cell {w : World} {g : Nat} {s : PZ} (h : PB w g s) (i : Nat) : w.cell? ⟨g, i, none⟩ = s.cells[i]? := cell_of_block h i
theorem PB.c0 {w : World} {g : Nat} {s : PZ} (h : PB w g s) : w.cell? ⟨g, 0, none⟩ = some (.string s.src) := (h.cell 0).trans rfl
theorem PB.c1 {w : World} {g : Nat} {s : PZ} (h : PB w g s) : w.cell? ⟨g, 1, none⟩ = some (.int .i64 (s.p : Nat)) := (h.cell 1).trans rfl
theorem PB.c2 {w : World} {g : Nat} {s : PZ} (h : PB w g s) : w.cell? ⟨g, 2, none⟩ = some (.int .i64 (s.k : Nat)) := (h.cell 2).trans rfl
theorem PB.c3 {w : World} {g : Nat} {s : PZ} (h : PB w g s) : w.cell? ⟨g, 3, none⟩ = some (.int .i64 (s.t : Nat)) := (h.cell 3).trans rfl
theorem PB.c4 {w : World} {g : Nat} {s : PZ} (h : PB w g s) : w.cell? ⟨g, 4, none⟩ = some (.string s.s) := (h.cell 4).trans rfl
theorem PB.c5 {w : World} {g : Nat} {s : PZ} (h : PB w g s) : w.cell? ⟨g, 5, none⟩ = some s.M := (h.cell 5).trans rfl
theorem PB.c6 {w : World} {g : Nat} {s : PZ} (h : PB w g s) : w.cell? ⟨g, 6, none⟩ = some s.W0 := (h.cell 6).trans rfl
theorem PB.c7 {w : World} {g : Nat} {s : PZ} (h : PB w g s) : w.cell? ⟨g, 7, none⟩ = some s.M0 := (h.cell 7).trans rfl
theorem PB.c8 {w : World} {g : Nat} {s : PZ} (h : PB w g s) : w.cell? ⟨g, 8, none⟩ = some s.A := (h.cell 8).trans rfl
theorem PB.c9 {w : World} {g : Nat} {s : PZ} (h : PB w g s) : w.cell? ⟨g, 9, none⟩ = some s.B := (h.cell 9).trans rfl
theorem PB.c10 {w : World} {g : Nat} {s : PZ} (h : PB w g s) : w.cell? ⟨g, 10, none⟩ = some s.C := (h.cell 10).trans rfl
theorem PB.c11 {w : World} {g : Nat} {s : PZ} (h : PB w g s) : w.cell? ⟨g, 11, none⟩ = some (.int .i64 (s.why : Nat)) := (h.cell 11).trans rfl
theorem PB.c12 {w : World} {g : Nat} {s : PZ} (h : PB w g s) : w.cell? ⟨g, 12, none⟩ = some (.int .i64 (s.at' : Nat)) := (h.cell 12).trans rfl
theorem PB.free {w : World} {g : Nat} {s : PZ} (h : PB w g s) (i : Nat) : w.frozen? ⟨g, i, none⟩ = false := unfrozen_of_block h i
theorem PB.below {w w' : World} {g B : Nat} {s : PZ} (h : PB w g s) (hb : Below B w w') (hg : g < B) : PB w' g s := (hb.block g hg).trans h
theorem PB.other {w : World} {g b o : Nat} {s : PZ} (h : PB w g s) (hb : g ≠ b) (v : Value) : PB (w.setCell ⟨b, o, none⟩ v) g s := (Below.heap_setCell _ _ _ _ hb).trans h
theorem PB.set {w : World} {g : Nat} {s : PZ} (h : PB w g s) (i : Nat) (v : Value) {s' : PZ} (he : s.cells.setIfInBounds i v = s'.cells) : PB (w.setCell ⟨g, i, none⟩ v) g s' := by
  have := block_setCell h (i := i) v
  rw [he] at this
  exact this
theorem PB.setP {w : World} {g : Nat} {s : PZ} (h : PB w g s) (q : Nat) : PB (w.setCell ⟨g, 1, none⟩ (.int .i64 (q : Nat))) g { s with p := q } := h.set 1 _ rfl
theorem PB.setK {w : World} {g : Nat} {s : PZ} (h : PB w g s) (q : Nat) : PB (w.setCell ⟨g, 2, none⟩ (.int .i64 (q : Nat))) g { s with k := q } := h.set 2 _ rfl
theorem PB.setT {w : World} {g : Nat} {s : PZ} (h : PB w g s) (q : Nat) : PB (w.setCell ⟨g, 3, none⟩ (.int .i64 (q : Nat))) g { s with t := q } := h.set 3 _ rfl
theorem PB.setS {w : World} {g : Nat} {s : PZ} (h : PB w g s) (q : ByteArray) : PB (w.setCell ⟨g, 4, none⟩ (.string q)) g { s with s := q } := h.set 4 _ rfl
theorem PB.setM {w : World} {g : Nat} {s : PZ} (h : PB w g s) (v : Value) : PB (w.setCell ⟨g, 5, none⟩ v) g { s with M := v } := h.set 5 _ rfl
theorem PB.setW0 {w : World} {g : Nat} {s : PZ} (h : PB w g s) (v : Value) : PB (w.setCell ⟨g, 6, none⟩ v) g { s with W0 := v } := h.set 6 _ rfl
theorem PB.setM0 {w : World} {g : Nat} {s : PZ} (h : PB w g s) (v : Value) : PB (w.setCell ⟨g, 7, none⟩ v) g { s with M0 := v } := h.set 7 _ rfl
theorem PB.setA {w : World} {g : Nat} {s : PZ} (h : PB w g s) (v : Value) : PB (w.setCell ⟨g, 8, none⟩ v) g { s with A := v } := h.set 8 _ rfl
theorem PB.setB {w : World} {g : Nat} {s : PZ} (h : PB w g s) (v : Value) : PB (w.setCell ⟨g, 9, none⟩ v) g { s with B := v } := h.set 9 _ rfl
theorem PB.setC {w : World} {g : Nat} {s : PZ} (h : PB w g s) (v : Value) : PB (w.setCell ⟨g, 10, none⟩ v) g { s with C := v } := h.set 10 _ rfl
theorem PB.setWhy {w : World} {g : Nat} {s : PZ} (h : PB w g s) (q : Nat) : PB (w.setCell ⟨g, 11, none⟩ (.int .i64 (q : Nat))) g { s with why := q } := h.set 11 _ rfl
theorem PB.setAt {w : World} {g : Nat} {s : PZ} (h : PB w g s) (q : Nat) : PB (w.setCell ⟨g, 12, none⟩ (.int .i64 (q : Nat))) g { s with at' := q } := h.set 12 _ rfl
theorem hereI_end {l : List UInt8} {k : Nat} (h : l.length ≤ k) : hereI l k = -1 := by unfold hereI; rw [List.getElem?_eq_none h]
theorem hereI_at {l : List UInt8} {k : Nat} (h : k < l.length) : hereI l k = (l[k].toNat : Int) := by unfold hereI; rw [List.getElem?_eq_getElem h]
theorem hereI_ge (l : List UInt8) (k : Nat) : -1 ≤ hereI l k ∧ hereI l k ≤ 255 := by
  unfold hereI
  split
  · omega
  · rename_i c _
    have := UInt8.toNat_lt c
    omega
set_option maxHeartbeats 1000000 in
theorem here_any (g : Nat) (s : PZ) (w : World) (h : PB w g s) (hp : s.p ≤ s.src.size) (hs : s.src.size ≤ 9223372036854775807) :
    Calls Tryd.prog 58 #[.pointer (some ⟨g, 0, none⟩)] w fun e w' => e = .returned (.int .i64 (hereI (tl s.src) s.p)) ∧ Below w.heap.size w w' := by
  have c0 := h.c0
  have c1 := h.c1
  obtain ⟨src, p, k, t, ss, M, W0, M0, A, B, C, why, at'⟩ := s
  simp only at *
  clear h
  by_cases hlt : p < src.size
  · have hH : hereI (tl src) p = ((src[p]).toNat : Int) := hereI_at (l := tl src) (by simpa using hlt)
    rw [hH]
    have hne : ((p : Int) == (src.size : Int)) = false := by simp; omega
    have hb := UInt8.toNat_lt (src[p])
    clear hH
    go_enter Tryd.func58, Tryd.ntmps58
    go_wp2_with fail
    go_quiet (fail)
    go_wp2_with fail
    go_quiet (fail)
    go_wp2_with fail
    go_ret
    exact ⟨rfl, by first | exact (below_drewN (below_drewN (Below.refl _ _) _) _) | exact below_drewN (Below.refl _ _) _⟩
  · have hpe : p = src.size := by omega
    subst hpe
    rw [hereI_end (by simp)]
    have hne : ((src.size : Int) == (src.size : Int)) = true := by simp
    go_enter Tryd.func58, Tryd.ntmps58
    go_wp2_with fail
    go_quiet (fail)
    go_wp2_with fail
    go_ret
    exact ⟨rfl, below_drewN (Below.refl _ _) _⟩
end Go.Proofs.YtonbfcpbgkpbaaaDoor
end
