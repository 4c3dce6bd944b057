import Derived.Laws.RangeAny
import Derived.Test.YtonbfcpbgkpbaaaGreatDoorProg
section
/- The mathematics of utf: which bytes at a front fit into one sequence; items, what is held, what is put in an ill-formed part's place. -/
namespace Go.Proofs.YtonbfcpbgkpbaaaGreatDoor
def bt (l : List UInt8) (i : Nat) : Nat := (l.getD i 0).toNat
theorem bt_lt (l : List UInt8) (i : Nat) : bt l i < 256 := UInt8.toNat_lt _
theorem bt_drop (l : List UInt8) (k i : Nat) : bt (l.drop k) i = bt l (k + i) := by simp [bt, List.getD]
theorem bt_append (l t : List UInt8) (i : Nat) (h : i < l.length) : bt (l ++ t) i = bt l i := by simp [bt, List.getD, List.getElem?_append_left h]
theorem bt_over (l : List UInt8) (i : Nat) (h : l.length ≤ i) : bt l i = 0 := by simp [bt, List.getD, List.getElem?_eq_none h]
theorem bt_get (l : List UInt8) (i : Nat) (h : i < l.length) : l[i]? = some (UInt8.ofNat (bt l i)) := by
  simp [bt, List.getD, List.getElem?_eq_getElem h]
/-- A byte from lo to hi stands at i. -/
def stands (l : List UInt8) (i lo hi : Nat) : Bool := decide (i < l.length) && (decide (lo ≤ bt l i) && decide (bt l i ≤ hi))
def goOne (l : List UInt8) (n lo hi : Nat) : Nat × Bool := if stands l n lo hi = true then (n + 1, true) else (n, false)
def goTwo (l : List UInt8) (n lo hi : Nat) : Nat × Bool := if stands l n lo hi = true then goOne l (n + 1) 128 191 else (n, false)
def goThree (l : List UInt8) (n lo hi : Nat) : Nat × Bool := if stands l n lo hi = true then goTwo l (n + 1) 128 191 else (n, false)
/-- How many bytes fit into one sequence; are they the whole of it? -/
def front (l : List UInt8) : Nat × Bool :=
  if l.length = 0 then (0, false) else
  if bt l 0 ≤ 127 then (1, true) else
  if bt l 0 ≤ 193 then (0, false) else
  if bt l 0 ≤ 223 then goOne l 1 128 191 else
  if bt l 0 = 224 then goTwo l 1 160 191 else
  if bt l 0 = 237 then goTwo l 1 128 159 else
  if bt l 0 ≤ 239 then goTwo l 1 128 191 else
  if bt l 0 = 240 then goThree l 1 144 191 else
  if bt l 0 ≤ 243 then goThree l 1 128 191 else
  if bt l 0 = 244 then goThree l 1 128 143 else (0, false)
/-- What front answers, by the bytes: n bytes, of which b0 .. b3 are the first ones. -/
def FS (n b0 b1 b2 b3 : Nat) (r : Nat × Bool) : Prop :=
  (r = (0, false) ∧ (n = 0 ∨ (0 < n ∧ 128 ≤ b0 ∧ (b0 ≤ 193 ∨ 245 ≤ b0)))) ∨
  (r = (1, true) ∧ 0 < n ∧ b0 ≤ 127) ∨
  (r = (1, false) ∧ 0 < n ∧ 194 ≤ b0 ∧ b0 ≤ 244 ∧ (n = 1 ∨ b1 < 128 ∨ 191 < b1 ∨ (b0 = 224 ∧ b1 < 160) ∨ (b0 = 240 ∧ b1 < 144) ∨ (b0 = 237 ∧ 159 < b1) ∨ (b0 = 244 ∧ 143 < b1))) ∨
  (r = (2, true) ∧ 1 < n ∧ 194 ≤ b0 ∧ b0 ≤ 223 ∧ 128 ≤ b1 ∧ b1 ≤ 191) ∨
  (r = (2, false) ∧ 1 < n ∧ 224 ≤ b0 ∧ b0 ≤ 244 ∧ 128 ≤ b1 ∧ b1 ≤ 191 ∧ (b0 ≠ 224 ∨ 160 ≤ b1) ∧ (b0 ≠ 240 ∨ 144 ≤ b1) ∧ (b0 ≠ 237 ∨ b1 ≤ 159) ∧ (b0 ≠ 244 ∨ b1 ≤ 143) ∧ (n = 2 ∨ b2 < 128 ∨ 191 < b2)) ∨
  (r = (3, true) ∧ 2 < n ∧ 224 ≤ b0 ∧ b0 ≤ 239 ∧ 128 ≤ b1 ∧ b1 ≤ 191 ∧ (b0 ≠ 224 ∨ 160 ≤ b1) ∧ (b0 ≠ 237 ∨ b1 ≤ 159) ∧ 128 ≤ b2 ∧ b2 ≤ 191) ∨
  (r = (3, false) ∧ 2 < n ∧ 240 ≤ b0 ∧ b0 ≤ 244 ∧ 128 ≤ b1 ∧ b1 ≤ 191 ∧ (b0 ≠ 240 ∨ 144 ≤ b1) ∧ (b0 ≠ 244 ∨ b1 ≤ 143) ∧ 128 ≤ b2 ∧ b2 ≤ 191 ∧ (n = 3 ∨ b3 < 128 ∨ 191 < b3)) ∨
  (r = (4, true) ∧ 3 < n ∧ 240 ≤ b0 ∧ b0 ≤ 244 ∧ 128 ≤ b1 ∧ b1 ≤ 191 ∧ (b0 ≠ 240 ∨ 144 ≤ b1) ∧ (b0 ≠ 244 ∨ b1 ≤ 143) ∧ 128 ≤ b2 ∧ b2 ≤ 191 ∧ 128 ≤ b3 ∧ b3 ≤ 191)
theorem FS.inj {n b0 b1 b2 b3 : Nat} {r r' : Nat × Bool} (h : FS n b0 b1 b2 b3 r) (h' : FS n b0 b1 b2 b3 r') : r = r' := by
  unfold FS at h h'
  rcases h with ⟨e, g⟩ | ⟨e, g⟩ | ⟨e, g⟩ | ⟨e, g⟩ | ⟨e, g⟩ | ⟨e, g⟩ | ⟨e, g⟩ | ⟨e, g⟩ <;>
  rcases h' with ⟨e', g'⟩ | ⟨e', g'⟩ | ⟨e', g'⟩ | ⟨e', g'⟩ | ⟨e', g'⟩ | ⟨e', g'⟩ | ⟨e', g'⟩ | ⟨e', g'⟩ <;> first | exact e.trans e'.symm | (exfalso; clear e e'; omega)
theorem stands_iff (l : List UInt8) (i lo hi : Nat) : stands l i lo hi = true ↔ i < l.length ∧ lo ≤ bt l i ∧ bt l i ≤ hi := by simp [stands]
theorem fs_ite {n b0 b1 b2 b3 : Nat} {c : Prop} [Decidable c] {x y : Nat × Bool} (h : c → FS n b0 b1 b2 b3 x) (h' : ¬c → FS n b0 b1 b2 b3 y) : FS n b0 b1 b2 b3 (if c then x else y) := by
  split
  · exact h (by assumption)
  · exact h' (by assumption)
theorem front_fs (l : List UInt8) : FS l.length (bt l 0) (bt l 1) (bt l 2) (bt l 3) (front l) := by
  unfold front goThree goTwo goOne
  simp only [stands_iff, Nat.reduceAdd]
  generalize bt l 0 = b0
  generalize bt l 1 = b1
  generalize bt l 2 = b2
  generalize bt l 3 = b3
  generalize l.length = n
  repeat' refine fs_ite (fun _ => ?_) (fun _ => ?_)
  all_goals
    unfold FS
    simp
    omega
theorem front_is {l : List UInt8} {r : Nat × Bool} (h : FS l.length (bt l 0) (bt l 1) (bt l 2) (bt l 3) r) : front l = r := (front_fs l).inj h
theorem front_spec (l : List UInt8) : FS l.length (bt l 0) (bt l 1) (bt l 2) (bt l 3) (front l) := front_fs l
def wid (l : List UInt8) : Nat := if (front l).2 = true then (front l).1 else 1
theorem front_le (l : List UInt8) : (front l).1 ≤ l.length ∧ (front l).1 ≤ 4 ∧ ((front l).2 = true → 1 ≤ (front l).1) ∧ ((front l).2 = false → (front l).1 ≤ 3) := by
  rcases front_spec l with ⟨e, h⟩ | ⟨e, h⟩ | ⟨e, h⟩ | ⟨e, h⟩ | ⟨e, h⟩ | ⟨e, h⟩ | ⟨e, h⟩ | ⟨e, h⟩ <;> rw [e] <;> simp <;> omega
theorem wid_pos (l : List UInt8) : 1 ≤ wid l := by
  unfold wid; split
  · exact (front_le l).2.2.1 (by assumption)
  · exact Nat.le_refl _
theorem wid_le (l : List UInt8) (h : l ≠ []) : wid l ≤ l.length := by
  have h0 : 0 < l.length := List.length_pos_iff.2 h
  unfold wid; split
  · exact (front_le l).1
  · omega
theorem wid_four (l : List UInt8) : wid l ≤ 4 := by
  unfold wid; split
  · exact (front_le l).2.1
  · omega
/-- What stands behind turns nothing, but where all that stands is a beginning. -/
theorem front_append (l t : List UInt8) (h : (front l).2 = true ∨ (front l).1 < l.length) : front (l ++ t) = front l := by
  refine front_is ?_
  have e0 := bt_append l t 0
  have e1 := bt_append l t 1
  have e2 := bt_append l t 2
  have e3 := bt_append l t 3
  have hl : (l ++ t).length = l.length + t.length := List.length_append
  generalize (l ++ t).length = m at *
  generalize bt (l ++ t) 0 = c0 at *
  generalize bt (l ++ t) 1 = c1 at *
  generalize bt (l ++ t) 2 = c2 at *
  generalize bt (l ++ t) 3 = c3 at *
  unfold FS
  rcases front_spec l with ⟨e, g⟩ | ⟨e, g⟩ | ⟨e, g⟩ | ⟨e, g⟩ | ⟨e, g⟩ | ⟨e, g⟩ | ⟨e, g⟩ | ⟨e, g⟩ <;> rw [e] at h ⊢ <;> clear e <;> simp at h ⊢ <;> omega
/-- Behind the first byte of what fits stand bytes from 128 to 191. -/
theorem front_later (l : List UInt8) (i : Nat) (h0 : 0 < i) (h : i < (front l).1) : i < l.length ∧ 128 ≤ bt l i ∧ bt l i ≤ 191 := by
  rcases front_spec l with ⟨e, g⟩ | ⟨e, g⟩ | ⟨e, g⟩ | ⟨e, g⟩ | ⟨e, g⟩ | ⟨e, g⟩ | ⟨e, g⟩ | ⟨e, g⟩ <;> rw [e] at h <;> simp at h <;> try (exfalso; omega)
  all_goals
    have hi : i = 1 ∨ i = 2 ∨ i = 3 := by omega
    rcases hi with rfl | rfl | rfl <;> omega
theorem front_first (l : List UInt8) (h : (front l).2 = false) (h1 : 1 ≤ (front l).1) : 194 ≤ bt l 0 ∧ bt l 0 ≤ 244 := by
  rcases front_spec l with ⟨e, g⟩ | ⟨e, g⟩ | ⟨e, g⟩ | ⟨e, g⟩ | ⟨e, g⟩ | ⟨e, g⟩ | ⟨e, g⟩ | ⟨e, g⟩ <;> rw [e] at h h1 <;> simp at h h1 <;> omega
theorem front_none (l : List UInt8) (h1 : 128 ≤ bt l 0) (h2 : bt l 0 ≤ 191) : front l = (0, false) := by
  have hl : l.length ≠ 0 := fun h => by rw [bt_over l 0 (by omega)] at h1; omega
  refine front_is ?_
  unfold FS
  simp
  omega
theorem front_nil : front [] = (0, false) := rfl
/-- A beginning of what fits is what fits of it. -/
theorem front_take (l : List UInt8) (k : Nat) (h : k < (front l).1 ∨ (k = (front l).1 ∧ (front l).2 = false)) : front (l.take k) = (k, false) := by
  refine front_is ?_
  have hl := (front_le l).1
  have hk : (l.take k).length = k := by simp; omega
  have et : ∀ i, i < k → bt (l.take k) i = bt l i := fun i hi => by simp [bt, List.getD, hi]
  have e0 := et 0
  have e1 := et 1
  have e2 := et 2
  have e3 := et 3
  rw [hk]
  generalize bt (l.take k) 0 = c0 at *
  generalize bt (l.take k) 1 = c1 at *
  generalize bt (l.take k) 2 = c2 at *
  generalize bt (l.take k) 3 = c3 at *
  clear et
  unfold FS
  have hc : k = 0 ∨ k = 1 ∨ k = 2 ∨ k = 3 := by
    have h4 := front_le l
    rcases h with h | ⟨h, h'⟩
    · omega
    · have := h4.2.2.2 h'
      omega
  rcases front_spec l with ⟨e, g⟩ | ⟨e, g⟩ | ⟨e, g⟩ | ⟨e, g⟩ | ⟨e, g⟩ | ⟨e, g⟩ | ⟨e, g⟩ | ⟨e, g⟩ <;> rw [e] at h hl <;> clear e <;> simp at h hl <;>
  rcases hc with rfl | rfl | rfl | rfl <;> simp <;> omega
/-- The whole sequence alone is whole. -/
theorem front_whole_take (l : List UInt8) (h : (front l).2 = true) : front (l.take (front l).1) = front l := by
  have hl := (front_le l).1
  refine front_is ?_
  generalize hk0 : (front l).1 = k at *
  have hk : (l.take k).length = k := by simp; omega
  have et : ∀ i, i < k → bt (l.take k) i = bt l i := fun i hi => by simp [bt, List.getD, hi]
  have e0 := et 0
  have e1 := et 1
  have e2 := et 2
  have e3 := et 3
  rw [hk]
  generalize bt (l.take k) 0 = c0 at *
  generalize bt (l.take k) 1 = c1 at *
  generalize bt (l.take k) 2 = c2 at *
  generalize bt (l.take k) 3 = c3 at *
  clear et
  unfold FS
  rcases front_spec l with ⟨e, g⟩ | ⟨e, g⟩ | ⟨e, g⟩ | ⟨e, g⟩ | ⟨e, g⟩ | ⟨e, g⟩ | ⟨e, g⟩ | ⟨e, g⟩ <;> rw [e] at h hk0 ⊢ <;> clear e <;> simp at h hk0 ⊢ <;> omega
end Go.Proofs.YtonbfcpbgkpbaaaGreatDoor
end
section
/- Recipes: the tokens of a text, what a parser makes of them: the mathematics. -/
namespace Go.Proofs.YtonbfcpbgkpbaaaGreatDoor
/-- Kinds: 1 a name, 2 a number, 3 a rune, 4 a word, 5 a sign, 6 none, 7 an open word, 8 the end. -/
structure Tok where
  k : Nat
  at' : Nat
  s : List UInt8
def smallB (c : UInt8) : Bool := decide (97 ≤ c.toNat) && decide (c.toNat ≤ 122)
def digitB (c : UInt8) : Bool := decide (48 ≤ c.toNat) && decide (c.toNat ≤ 57)
def capB (c : UInt8) : Bool := digitB c || (decide (65 ≤ c.toNat) && decide (c.toNat ≤ 70))
def lowB (c : UInt8) : Bool := digitB c || (decide (97 ≤ c.toNat) && decide (c.toNat ≤ 102))
def onB (c : UInt8) : Bool := smallB c || (decide (65 ≤ c.toNat) && decide (c.toNat ≤ 90)) || digitB c || c.toNat == 95
def shownB (c : UInt8) : Bool := decide (32 ≤ c.toNat) && decide (c.toNat ≤ 126)
def blnkB (c : UInt8) : Bool := c.toNat == 9 || c.toNat == 10 || c.toNat == 13 || c.toNat == 32
/-- The value of a digit of either kind. -/
def digV (c : UInt8) : Nat := if c.toNat ≤ 57 then c.toNat - 48 else if c.toNat ≤ 70 then c.toNat - 55 else c.toNat - 87
/-- May more stand directly behind? -/
def headOn : List UInt8 → Bool
  | [] => false
  | c :: _ => onB c
/-- How many bytes of blanks and remarks stand at the front (true: within a remark). -/
def skipN : Bool → List UInt8 → Nat
  | _, [] => 0
  | r, c :: l => if r = true then (if c.toNat = 10 then 1 + skipN false l else 1 + skipN true l) else (if blnkB c = true then 1 + skipN false l else if c.toNat = 35 then 1 + skipN true l else 0)
def wStep (r : Nat × Nat × List UInt8) : Nat × Nat × List UInt8 := (r.1, r.2.1 + 1, r.2.2)
def wCons (c : UInt8) (r : Nat × Nat × List UInt8) : Nat × Nat × List UInt8 := (r.1, r.2.1 + 1, c :: r.2.2)
def byteV (h c : UInt8) : UInt8 := UInt8.ofNat (digV h * 16 + digV c)
/-- A word behind its first sign: kind, bytes, text (0: between bytes, 1: behind a stroke, 2: behind a digit). -/
def wordW : Nat → UInt8 → List UInt8 → Nat × Nat × List UInt8
  | _, _, [] => (7, 0, [])
  | 0, h, c :: l => if c.toNat = 34 then (4, 1, []) else if c.toNat = 92 then wStep (wordW 1 h l) else if shownB c = true then wCons c (wordW 0 h l) else (6, 0, [])
  | 1, h, c :: l => if c.toNat = 34 ∨ c.toNat = 92 then wCons c (wordW 0 h l) else if lowB c = true then wStep (wordW 2 c l) else (6, 0, [])
  | _ + 2, h, c :: l => if lowB c = true ∧ shownB (byteV h c) = false then wCons (byteV h c) (wordW 0 h l) else (6, 0, [])
/-- A number's value in a base. -/
def valF (b : Nat) : Nat → List UInt8 → Nat
  | n, [] => n
  | n, c :: l => valF b (n * b + digV c) l
def scalarB (n : Nat) : Bool := decide (n ≤ 55295) || (decide (57344 ≤ n) && decide (n ≤ 1114111))
/-- Are these digits those of a rune? -/
def runeDB (l : List UInt8) : Bool := decide (4 ≤ l.length) && decide (l.length ≤ 6) && (decide (l.length ≤ 4) || (l.headD 0).toNat != 48) && scalarB (valF 16 0 l)
def bounded (k n : Nat) (l : List UInt8) : Nat × Nat × List UInt8 := (if headOn (l.drop n) = true then 6 else k, n, l.take n)
def tenDigits : Nat → List UInt8 → Nat
  | 0, _ => 0
  | _ + 1, [] => 0
  | f + 1, c :: l => if digitB c = true then 1 + tenDigits f l else 0
/-- A word's bytes, if it is one. -/
def wordT (R : Nat × Nat × List UInt8) : List UInt8 := if R.1 = 4 then R.2.2 else []
/-- The token at a front: kind, bytes, text. -/
def tokL (l : List UInt8) : Nat × Nat × List UInt8 :=
  match l with
  | [] => (8, 0, [])
  | c :: l' =>
    if c.toNat = 34 then ((wordW 0 0 l').1, (wordW 0 0 l').2.1 + 1, wordT (wordW 0 0 l'))
    else if smallB c = true then bounded 1 (l.takeWhile smallB).length l
    else if c.toNat = 48 then bounded 2 1 l
    else if digitB c = true then bounded 2 (tenDigits 10 l) l
    else if l.take 2 = [85, 43] then bounded (if runeDB ((l.drop 2).takeWhile capB) = true then 3 else 6) (2 + ((l.drop 2).takeWhile capB).length) l
    else if l.take 2 = [46, 46] then (5, 2, l.take 2)
    else if c.toNat = 123 ∨ c.toNat = 125 ∨ c.toNat = 43 ∨ c.toNat = 61 then (5, 1, l.take 1)
    else (6, 0, [])
/-- The tokens from a place on; the last one is none of kinds 1 to 5. -/
def strm : Nat → List UInt8 → Nat → List Tok
  | 0, _, _ => []
  | f + 1, l, p =>
    let q := skipN false l
    let t := tokL (l.drop q)
    ⟨t.1, p + q, t.2.2⟩ :: if t.1 ≤ 5 then strm f (l.drop (q + t.2.1)) (p + q + t.2.1) else []
end Go.Proofs.YtonbfcpbgkpbaaaGreatDoor
end
section
/- Spans: what they are, and what is asked of them: the mathematics. -/
namespace Go.Proofs.YtonbfcpbgkpbaaaGreatDoor
/-- A span. -/
structure Sp where
  lo : Int
  hi : Int
/-- Is it a scalar value? -/
def runeB (r : Int) : Bool := decide (0 ≤ r) && decide (r ≤ 1114111) && (decide (r < 55296) || decide (57343 < r))
theorem runeB_iff (r : Int) : runeB r = true ↔ 0 ≤ r ∧ r ≤ 1114111 ∧ (r < 55296 ∨ 57343 < r) := by
  simp [runeB, and_assoc]
/-- What two spans have in common. -/
def comL (x y : Sp) : Sp := if min x.hi y.hi < max x.lo y.lo then ⟨0, -1⟩ else ⟨max x.lo y.lo, min x.hi y.hi⟩
/-- The two spans of all runes. -/
def lowR : Sp := ⟨0, 55295⟩
def highR : Sp := ⟨57344, 1114111⟩
/-- Do two spans lie over each other? -/
def ovB (x y : Sp) : Bool := decide (max x.lo y.lo ≤ min x.hi y.hi)
/-- Why row i may not stand there: 0: it may. -/
def badAt (l : List Sp) (i : Nat) : Nat :=
  match l[i]? with
  | none => 0
  | some x => if runeB x.lo = false ∨ runeB x.hi = false then 14 else if x.hi < x.lo then 15 else
    match i with
    | 0 => 0
    | j + 1 => match l[j]? with
      | none => 0
      | some y => if x.lo ≤ y.hi then 15 else 0
def rightA (l : List Sp) : Nat × Nat :=
  match (List.range l.length).find? (fun i => decide (badAt l i ≠ 0)) with
  | some i => (i, badAt l i)
  | none => (0, 0)
def Rgt (l : List Sp) : Prop := ∀ j, j < l.length → badAt l j = 0
theorem rightA_some {l : List Sp} {k : Nat} (hk : k < l.length) (hb : ∀ j, j < k → badAt l j = 0) (h : badAt l k ≠ 0) : rightA l = (k, badAt l k) := by
  have : (List.range l.length).find? (fun i => decide (badAt l i ≠ 0)) = some k := by
    rw [List.find?_range_eq_some]
    refine ⟨by simpa using h, by simpa using hk, fun j hj => by simpa using hb j hj⟩
  unfold rightA
  rw [this]
theorem rightA_none {l : List Sp} (h : Rgt l) : rightA l = (0, 0) := by
  have : (List.range l.length).find? (fun i => decide (badAt l i ≠ 0)) = none := by
    rw [List.find?_range_eq_none]
    exact fun j hj => by simpa using h j hj
  unfold rightA
  rw [this]
theorem rightA_zero {l : List Sp} (h : (rightA l).2 = 0) : Rgt l := by
  intro j hj
  unfold rightA at h
  cases hf : (List.range l.length).find? (fun i => decide (badAt l i ≠ 0)) with
  | some i =>
    rw [hf] at h
    rw [List.find?_range_eq_some] at hf
    have := hf.1
    simp at this
    exact absurd h this
  | none =>
    rw [List.find?_range_eq_none] at hf
    simpa using hf j hj
theorem rightA_le (l : List Sp) : (rightA l).1 ≤ l.length ∧ (rightA l).2 ≤ 15 := by
  unfold rightA
  cases hf : (List.range l.length).find? (fun i => decide (badAt l i ≠ 0)) with
  | some i =>
    rw [List.find?_range_eq_some] at hf
    have := hf.2.1
    simp at this
    refine ⟨by simp; omega, ?_⟩
    simp only
    unfold badAt
    split
    · omega
    · split
      · omega
      · split
        · omega
        · split
          · omega
          · split
            · omega
            · split <;> omega
  | none => simp
/-- What a right row is. -/
theorem Rgt.row {l : List Sp} (h : Rgt l) {i : Nat} {x : Sp} (hx : l[i]? = some x) : runeB x.lo = true ∧ runeB x.hi = true ∧ x.lo ≤ x.hi := by
  have := h i (List.getElem?_eq_some_iff.1 hx).1
  unfold badAt at this
  rw [hx] at this
  simp only at this
  split at this
  · omega
  · rename_i h1
    split at this
    · omega
    · rename_i h2
      refine ⟨?_, ?_, by omega⟩
      · cases hb : runeB x.lo with
        | true => rfl
        | false => exact absurd (.inl hb) h1
      · cases hb : runeB x.hi with
        | true => rfl
        | false => exact absurd (.inr hb) h1
theorem Rgt.next {l : List Sp} (h : Rgt l) {i : Nat} {x y : Sp} (hx : l[i]? = some x) (hy : l[i + 1]? = some y) : x.hi < y.lo := by
  have := h (i + 1) (List.getElem?_eq_some_iff.1 hy).1
  unfold badAt at this
  rw [hy] at this
  simp only [hx] at this
  split at this
  · omega
  · split at this
    · omega
    · split at this <;> omega
theorem Rgt.rise {l : List Sp} (h : Rgt l) {i j : Nat} {x y : Sp} (hij : i < j) (hx : l[i]? = some x) (hy : l[j]? = some y) : x.hi < y.lo := by
  induction j generalizing y with
  | zero => omega
  | succ j ih =>
    by_cases e : i = j
    · subst e; exact h.next hx hy
    · have hj : j < l.length := by have := (List.getElem?_eq_some_iff.1 hy).1; omega
      have hz : l[j]? = some l[j] := List.getElem?_eq_getElem hj
      have h1 := ih (by omega) hz
      have h2 := h.next hz hy
      have h3 := (h.row hz).2.2
      omega
theorem Rgt.nil : Rgt [] := fun j hj => by simp at hj
/-- Does r lie in it? -/
def inB (l : List Sp) (r : Int) : Bool := runeB r && l.any fun x => decide (x.lo ≤ r) && decide (r ≤ x.hi)
/-- The first span of a that meets b. -/
def meets (b : List Sp) (x : Sp) : Bool := b.any (ovB x)
def meetA (a b : List Sp) : Nat × Bool :=
  match (List.range a.length).find? (fun i => (a[i]?).any (meets b)) with
  | some i => (i, true)
  | none => (0, false)
theorem meetA_some {a b : List Sp} {k : Nat} {x : Sp} (hx : a[k]? = some x) (hb : ∀ (j : Nat) (y : Sp), j < k → a[j]? = some y → meets b y = false) (h : meets b x = true) : meetA a b = (k, true) := by
  have : (List.range a.length).find? (fun i => (a[i]?).any (meets b)) = some k := by
    rw [List.find?_range_eq_some]
    refine ⟨by rw [hx]; exact h, by simpa using (List.getElem?_eq_some_iff.1 hx).1, fun j hj => ?_⟩
    have hj' : j < a.length := by have := (List.getElem?_eq_some_iff.1 hx).1; omega
    have hz : a[j]? = some a[j] := List.getElem?_eq_getElem hj'
    rw [hz]
    simpa using hb j _ hj hz
  unfold meetA
  rw [this]
theorem meetA_none {a b : List Sp} (hb : ∀ (j : Nat) (y : Sp), a[j]? = some y → meets b y = false) : meetA a b = (0, false) := by
  have : (List.range a.length).find? (fun i => (a[i]?).any (meets b)) = none := by
    rw [List.find?_range_eq_none]
    intro j hj
    have hz : a[j]? = some a[j] := List.getElem?_eq_getElem hj
    rw [hz]
    simpa using hb j _ hz
  unfold meetA
  rw [this]
theorem meetA_true {a b : List Sp} : (meetA a b).2 = true ↔ ∃ (i : Nat) (x : Sp), a[i]? = some x ∧ meets b x = true := by
  unfold meetA
  cases hf : (List.range a.length).find? (fun i => (a[i]?).any (meets b)) with
  | some i =>
    rw [List.find?_range_eq_some] at hf
    obtain ⟨h1, h2, _⟩ := hf
    simp at h2
    rw [List.getElem?_eq_getElem h2] at h1
    simp only [true_iff]
    exact ⟨i, _, List.getElem?_eq_getElem h2, h1⟩
  | none =>
    rw [List.find?_range_eq_none] at hf
    simp only [Bool.false_eq_true, false_iff]
    rintro ⟨i, x, hx, hm⟩
    have := hf i (List.getElem?_eq_some_iff.1 hx).1
    rw [hx] at this
    simp [hm] at this
theorem meets_true {b : List Sp} {x : Sp} : meets b x = true ↔ ∃ (j : Nat) (y : Sp), b[j]? = some y ∧ ovB x y = true := by
  unfold meets
  rw [List.any_eq_true]
  constructor
  · rintro ⟨y, hy, ho⟩
    obtain ⟨j, hj⟩ := List.getElem?_of_mem hy
    exact ⟨j, y, hj, ho⟩
  · rintro ⟨j, y, hj, ho⟩
    exact ⟨y, List.mem_of_getElem? hj, ho⟩
theorem meets_false {b : List Sp} {x : Sp} (h : ∀ (j : Nat) (y : Sp), b[j]? = some y → ovB x y = false) : meets b x = false := by
  cases hm : meets b x with
  | false => rfl
  | true =>
    obtain ⟨j, y, hj, ho⟩ := meets_true.1 hm
    rw [h j y hj] at ho
    cases ho
theorem ovB_comm (x y : Sp) : ovB x y = ovB y x := by unfold ovB; rw [Int.max_comm, Int.min_comm]
theorem meetA_comm (a b : List Sp) : (meetA a b).2 = (meetA b a).2 := by
  have h : ∀ a b : List Sp, (meetA a b).2 = true → (meetA b a).2 = true := by
    intro a b h
    obtain ⟨i, x, hx, hm⟩ := meetA_true.1 h
    obtain ⟨j, y, hy, ho⟩ := meets_true.1 hm
    exact meetA_true.2 ⟨j, y, hy, meets_true.2 ⟨i, x, hx, by rw [ovB_comm]; exact ho⟩⟩
  cases h1 : (meetA a b).2 with
  | true => rw [h a b h1]
  | false =>
    cases h2 : (meetA b a).2 with
    | false => rfl
    | true => rw [h b a h2] at h1; cases h1
/-- A rune of both: they meet. -/
theorem meet_of_in {a b : List Sp} {r : Int} (ha : inB a r = true) (hb : inB b r = true) : (meetA a b).2 = true := by
  unfold inB at ha hb
  simp only [Bool.and_eq_true, List.any_eq_true, decide_eq_true_eq] at ha hb
  obtain ⟨_, x, hx, h1, h2⟩ := ha
  obtain ⟨_, y, hy, h3, h4⟩ := hb
  obtain ⟨i, hi⟩ := List.getElem?_of_mem hx
  obtain ⟨j, hj⟩ := List.getElem?_of_mem hy
  refine meetA_true.2 ⟨i, x, hi, meets_true.2 ⟨j, y, hj, ?_⟩⟩
  unfold ovB
  simp only [decide_eq_true_eq]
  omega
end Go.Proofs.YtonbfcpbgkpbaaaGreatDoor
end
section
/- Classes: what New asks, rule by rule; kinds: the mathematics. -/
namespace Go.Proofs.YtonbfcpbgkpbaaaGreatDoor
/-- The list of the number k. -/
def pickL (A B C : List Sp) : Nat → List Sp
  | 1 => A
  | 2 => B
  | 3 => C
  | _ => []
/-- Too many spans? -/
def manyA (l : List Sp) : Nat × Nat := if 512 < l.length then (512, 4) else (0, 0)
/-- One list ahead more. -/
def ovS (X : List Sp) (f : Int) (Y : List Sp) : Int := if (meetA X Y).2 = true ∧ (f < 0 ∨ ((meetA X Y).1 : Int) < f) then ((meetA X Y).1 : Int) else f
/-- The first row of X that meets one of L; -1: there is none. -/
def ovI (X : List Sp) (L : List (List Sp)) : Int := L.foldl (ovS X) (-1)
def overA (X : List Sp) (L : List (List Sp)) : Nat × Nat := if ovI X L < 0 then (0, 0) else ((ovI X L).toNat, 16)
/-- The lists ahead of the number k. -/
def ahead (A B : List Sp) (k : Nat) : List (List Sp) := [[], A, B].take k
/-- The rule r at the list i: the row, and why. -/
def ruleA (A B C : List Sp) (r i : Nat) : Nat × Nat :=
  match r with
  | 0 => manyA (pickL A B C i)
  | 1 => rightA (pickL A B C i)
  | _ => overA (pickL A B C i) (ahead A B i)
def ent (A B C : List Sp) (q : Nat) : Nat × Nat := ruleA A B C (q / 3) (q % 3 + 1)
/-- The kind of a rune. -/
def kindOf (A B C : List Sp) (r : Int) : Nat := if inB A r then 1 else if inB B r then 2 else if inB C r then 3 else 4
/-- The last rule. -/
def blankB (A B C : List Sp) : Bool := !inB C 32 || inB A 39 || inB B 39 || inB C 39
/-- Why, which list, which row. -/
def checkA (A B C : List Sp) : Nat × Nat × Nat :=
  match (List.range 9).find? (fun q => decide ((ent A B C q).2 ≠ 0)) with
  | some q => ((ent A B C q).2, q % 3 + 1, (ent A B C q).1)
  | none => if blankB A B C then (20, 3, 0) else (0, 0, 0)
/-- All that is asked ahead of place q holds. -/
def Pass (A B C : List Sp) (q : Nat) : Prop := ∀ j, j < q → (ent A B C j).2 = 0
theorem Pass.zero (A B C : List Sp) : Pass A B C 0 := fun _ h => absurd h (Nat.not_lt_zero _)
theorem Pass.succ {A B C : List Sp} {q : Nat} (h : Pass A B C q) (h0 : (ent A B C q).2 = 0) : Pass A B C (q + 1) := fun j hj => by
  by_cases e : j = q
  · subst e; exact h0
  · exact h j (by omega)
theorem Pass.le {A B C : List Sp} {q p : Nat} (h : Pass A B C q) (hp : p ≤ q) : Pass A B C p := fun j hj => h j (by omega)
theorem check_bad {A B C : List Sp} {q : Nat} (hq : q < 9) (h : Pass A B C q) (h0 : (ent A B C q).2 ≠ 0) : checkA A B C = ((ent A B C q).2, q % 3 + 1, (ent A B C q).1) := by
  have : (List.range 9).find? (fun q => decide ((ent A B C q).2 ≠ 0)) = some q := by
    rw [List.find?_range_eq_some]
    exact ⟨by simpa using h0, by simpa using hq, fun j hj => by simpa using h j hj⟩
  unfold checkA
  rw [this]
theorem check_end {A B C : List Sp} (h : Pass A B C 9) : checkA A B C = if blankB A B C then (20, 3, 0) else (0, 0, 0) := by
  have : (List.range 9).find? (fun q => decide ((ent A B C q).2 ≠ 0)) = none := by
    rw [List.find?_range_eq_none]
    exact fun j hj => by simpa using h j hj
  unfold checkA
  rw [this]
theorem check_pass {A B C : List Sp} (h : (checkA A B C).1 = 0) : Pass A B C 9 ∧ blankB A B C = false := by
  cases hf : (List.range 9).find? (fun q => decide ((ent A B C q).2 ≠ 0)) with
  | some q =>
    unfold checkA at h
    rw [hf] at h
    rw [List.find?_range_eq_some] at hf
    have := hf.1
    simp at this
    exact absurd h this
  | none =>
    unfold checkA at h
    rw [hf] at h
    rw [List.find?_range_eq_none] at hf
    refine ⟨fun j hj => by simpa using hf j hj, ?_⟩
    cases hb : blankB A B C with
    | false => rfl
    | true => rw [hb] at h; simp at h
theorem check_zero {A B C : List Sp} (h : (checkA A B C).1 = 0) : checkA A B C = (0, 0, 0) := by
  obtain ⟨h1, h2⟩ := check_pass h
  rw [check_end h1, h2]
  rfl
theorem ent_many (A B C : List Sp) {q : Nat} (hq : q < 3) : ent A B C q = manyA (pickL A B C (q + 1)) := by
  unfold ent
  rw [show q / 3 = 0 by omega, show q % 3 = q by omega]; rfl
theorem ent_right (A B C : List Sp) {q : Nat} (hq : q < 3) : ent A B C (3 + q) = rightA (pickL A B C (q + 1)) := by
  unfold ent
  rw [show (3 + q) / 3 = 1 by omega, show (3 + q) % 3 = q by omega]; rfl
theorem ent_over (A B C : List Sp) {q : Nat} (hq : q < 3) : ent A B C (6 + q) = overA (pickL A B C (q + 1)) (ahead A B (q + 1)) := by
  unfold ent
  rw [show (6 + q) / 3 = 2 by omega, show (6 + q) % 3 = q by omega]; rfl
theorem ent_rule (A B C : List Sp) {r i : Nat} (hi : 1 ≤ i) (hi3 : i ≤ 3) : ent A B C (3 * r + (i - 1)) = ruleA A B C r i := by
  unfold ent
  rw [show (3 * r + (i - 1)) / 3 = r by omega, show (3 * r + (i - 1)) % 3 + 1 = i by omega]
theorem manyA_zero {l : List Sp} (h : (manyA l).2 = 0) : l.length ≤ 512 := by
  unfold manyA at h
  split at h
  · simp at h
  · omega
theorem Pass.len {A B C : List Sp} {q : Nat} (h : Pass A B C q) (hq : 3 ≤ q) : A.length ≤ 512 ∧ B.length ≤ 512 ∧ C.length ≤ 512 := by
  have h0 := h 0 (by omega)
  have h1 := h 1 (by omega)
  have h2 := h 2 (by omega)
  rw [ent_many _ _ _ (by omega)] at h0 h1 h2
  exact ⟨manyA_zero h0, manyA_zero h1, manyA_zero h2⟩
theorem Pass.rgt {A B C : List Sp} {q : Nat} (h : Pass A B C q) (hq : 6 ≤ q) : Rgt A ∧ Rgt B ∧ Rgt C := by
  have h0 := h (3 + 0) (by omega)
  have h1 := h (3 + 1) (by omega)
  have h2 := h (3 + 2) (by omega)
  rw [ent_right _ _ _ (by omega)] at h0 h1 h2
  exact ⟨rightA_zero h0, rightA_zero h1, rightA_zero h2⟩
theorem ovS_neg {X Y : List Sp} {f : Int} : ovS X f Y < 0 ↔ f < 0 ∧ (meetA X Y).2 = false := by
  unfold ovS
  cases hm : (meetA X Y).2 with
  | false => simp
  | true =>
    split
    · constructor
      · intro h; omega
      · rintro ⟨_, h⟩; cases h
    · rename_i h
      constructor
      · intro h'; exact absurd ⟨rfl, .inl h'⟩ h
      · rintro ⟨_, h'⟩; cases h'
theorem ovF_neg {X : List Sp} (L : List (List Sp)) (f : Int) : L.foldl (ovS X) f < 0 ↔ f < 0 ∧ ∀ Y, Y ∈ L → (meetA X Y).2 = false := by
  induction L generalizing f with
  | nil => simp
  | cons Z L ih =>
    rw [List.foldl_cons, ih, ovS_neg]
    simp [and_assoc]
theorem ovI_neg {X : List Sp} {L : List (List Sp)} : ovI X L < 0 ↔ ∀ Y, Y ∈ L → (meetA X Y).2 = false := by
  unfold ovI
  rw [ovF_neg]
  simp
theorem ovI_take {X : List Sp} {L : List (List Sp)} {j : Nat} {Y : List Sp} (h : L[j]? = some Y) : ovI X (L.take (j + 1)) = ovS X (ovI X (L.take j)) Y := by
  unfold ovI
  rw [List.take_add_one, h, List.foldl_append]
  rfl
theorem meetA_nil (X : List Sp) : meetA X [] = (0, false) := meetA_none fun _ _ _ => by simp [meets]
theorem ovS_nil (X : List Sp) (f : Int) : ovS X f [] = f := by
  unfold ovS
  rw [meetA_nil]
  simp
theorem ovI_nil (X : List Sp) (L : List (List Sp)) : ovI X ([] :: L) = ovI X L := by
  unfold ovI
  rw [List.foldl_cons, ovS_nil]
theorem Pass.apart {A B C : List Sp} (h : Pass A B C 9) : (meetA B A).2 = false ∧ (meetA C A).2 = false ∧ (meetA C B).2 = false := by
  have h1 := h (6 + 1) (by omega)
  have h2 := h (6 + 2) (by omega)
  rw [ent_over _ _ _ (by omega)] at h1 h2
  have ho : ∀ X L, (overA X L).2 = 0 → ∀ Y, Y ∈ L → (meetA X Y).2 = false := by
    intro X L h
    unfold overA at h
    split at h
    · rename_i hn
      exact ovI_neg.1 hn
    · simp at h
  exact ⟨ho _ _ h1 A (by simp [ahead]), ho _ _ h2 A (by simp [ahead]), ho _ _ h2 B (by simp [ahead])⟩
theorem not_in {a b : List Sp} {r : Int} (h : (meetA a b).2 = false) (ha : inB a r = true) : inB b r = false := by
  cases hb : inB b r with
  | false => rfl
  | true => rw [meet_of_in ha hb] at h; cases h
theorem blank_of {A B C : List Sp} (h : Pass A B C 9) : (decide (kindOf A B C 32 ≠ 3) || decide (kindOf A B C 39 ≠ 4)) = blankB A B C := by
  obtain ⟨h1, h2, h3⟩ := h.apart
  unfold kindOf blankB
  cases hc : inB C 32 with
  | true =>
    rw [not_in h2 hc, not_in h3 hc]
    cases inB A 39 <;> cases inB B 39 <;> cases inB C 39 <;> simp
  | false =>
    cases inB A 32 <;> cases inB B 32 <;> simp
theorem kindOf_range (A B C : List Sp) (r : Int) : 1 ≤ kindOf A B C r ∧ kindOf A B C r ≤ 4 := by
  unfold kindOf
  split
  · omega
  · split
    · omega
    · split <;> omega
theorem check_row {A B C : List Sp} : (checkA A B C).1 ≤ 20 ∧ (checkA A B C).2.1 ≤ 3 := by
  unfold checkA
  split
  · rename_i q hf
    rw [List.find?_range_eq_some] at hf
    refine ⟨?_, by simp only; omega⟩
    simp only
    unfold ent ruleA
    split
    · unfold manyA; split <;> simp
    · have := (rightA_le (pickL A B C (q % 3 + 1))).2; omega
    · unfold overA; split <;> simp
  · split <;> simp
end Go.Proofs.YtonbfcpbgkpbaaaGreatDoor
end
section
/- Models: what they are, and which are right: the mathematics. -/
namespace Go.Proofs.YtonbfcpbgkpbaaaGreatDoor
/-- A merge. -/
structure Mg where
  l : Int
  r : Int
  i : Int
/-- The text of one byte. -/
def byteS (id : Int) : ByteArray := ⟨#[UInt8.ofNat id.toNat]⟩
/-- An id's word. -/
def wordM (ws : List ByteArray) (id : Int) : Option ByteArray :=
  if 0 ≤ id ∧ id < 256 then some (byteS id) else if 256 ≤ id then ws[(id - 256).toNat]? else none
/-- Is an id a byte's, or that of one of the first n merges? -/
def madeM (ms : List Mg) (n : Nat) (id : Int) : Bool := (decide (0 ≤ id) && decide (id < 256)) || (decide (256 ≤ id) && (ms.take n).any fun x => x.i == id)
/-- The words of two ids, one behind the other. -/
def joinM (ws : List ByteArray) (l r : Int) : ByteArray := (wordM ws l).getD ⟨#[]⟩ ++ (wordM ws r).getD ⟨#[]⟩
def badW (ws : List ByteArray) (i : Nat) : Nat :=
  match ws[i]? with
  | none => 0
  | some w => if w.size < 2 ∨ 256 < w.size then 21 else if (ws.take i).any (fun v => decide (v = w)) = true then 22 else 0
def cutM (ws : List ByteArray) (ms : List Mg) (i : Nat) : Nat :=
  match ms[i]? with
  | none => 0
  | some x => if x.i < 256 ∨ (ws.length : Int) ≤ x.i - 256 ∨ madeM ms i x.i = true then 24 else if madeM ms i x.l = false ∨ madeM ms i x.r = false then 23 else if wordM ws x.i ≠ some (joinM ws x.l x.r) then 25 else 0
def pairB (x : Mg) (l r : Int) : Bool := x.l == l && x.r == r
def badM (ws : List ByteArray) (ms : List Mg) (i : Nat) : Nat :=
  if cutM ws ms i ≠ 0 then cutM ws ms i else
  match ms[i]? with
  | none => 0
  | some x => if (ms.take i).any (fun y => pairB y x.l x.r) = true then 22 else 0
/-- The first of n that f refuses. -/
def firstBad (f : Nat → Nat) (n : Nat) : Nat × Nat :=
  match (List.range n).find? (fun i => decide (f i ≠ 0)) with
  | some i => (f i, i)
  | none => (0, 0)
theorem firstBad_some {f : Nat → Nat} {n k : Nat} (hk : k < n) (hb : ∀ j, j < k → f j = 0) (h : f k ≠ 0) : firstBad f n = (f k, k) := by
  have : (List.range n).find? (fun i => decide (f i ≠ 0)) = some k := by
    rw [List.find?_range_eq_some]
    refine ⟨by simpa using h, by simpa using hk, fun j hj => by simpa using hb j hj⟩
  unfold firstBad
  rw [this]
theorem firstBad_none {f : Nat → Nat} {n : Nat} (h : ∀ j, j < n → f j = 0) : firstBad f n = (0, 0) := by
  have : (List.range n).find? (fun i => decide (f i ≠ 0)) = none := by
    rw [List.find?_range_eq_none]
    intro i hi
    simpa using h i hi
  unfold firstBad
  rw [this]
theorem firstBad_cases (f : Nat → Nat) (n : Nat) : (∀ j, j < n → f j = 0) ∧ firstBad f n = (0, 0) ∨ ∃ k, k < n ∧ (∀ j, j < k → f j = 0) ∧ f k ≠ 0 ∧ firstBad f n = (f k, k) := by
  cases h : (List.range n).find? (fun i => decide (f i ≠ 0)) with
  | none =>
    left
    have h' := List.find?_range_eq_none.1 h
    have h2 : ∀ j, j < n → f j = 0 := fun j hj => by simpa using h' j hj
    exact ⟨h2, firstBad_none h2⟩
  | some k =>
    right
    obtain ⟨h1, h2, h3⟩ := List.find?_range_eq_some.1 h
    have hk : k < n := by simpa using h2
    have hb : ∀ j, j < k → f j = 0 := fun j hj => by simpa using h3 j hj
    have hn : f k ≠ 0 := by simpa using h1
    exact ⟨k, hk, hb, hn, firstBad_some hk hb hn⟩
theorem firstBad_zero {f : Nat → Nat} {n : Nat} (h : (firstBad f n).1 = 0) : ∀ j, j < n → f j = 0 := by
  rcases firstBad_cases f n with ⟨h1, _⟩ | ⟨k, _, _, h3, h4⟩
  · exact h1
  · rw [h4] at h; exact absurd h h3
theorem firstBad_congr {f g : Nat → Nat} {n : Nat} (h : ∀ i, i < n → (∀ j, j < i → f j = 0) → f i = g i) : firstBad f n = firstBad g n := by
  have hz : ∀ i, i ≤ n → (∀ j, j < i → f j = 0) → ∀ j, j < i → g j = 0 := fun i hi hf j hj => by
    rw [← h j (by omega) (fun k hk => hf k (by omega))]; exact hf j hj
  rcases firstBad_cases f n with ⟨h1, h2⟩ | ⟨k, h1, h2, h3, h4⟩
  · rw [h2, firstBad_none (hz n (Nat.le_refl _) h1)]
  · have e := h k h1 h2
    rw [h4, firstBad_some h1 (hz k (by omega) h2) (by rw [← e]; exact h3), e]
/-- P5.1. -/
def checkD (ws : List ByteArray) (ms : List Mg) (A B C : List Sp) : Nat × Nat × Nat :=
  if 4096 < ms.length then (4, 5, 4096)
  else if ws.length ≠ ms.length then (4, 4, min ws.length ms.length)
  else if (checkA A B C).1 ≠ 0 then checkA A B C
  else if (firstBad (badW ws) ws.length).1 ≠ 0 then ((firstBad (badW ws) ws.length).1, 4, (firstBad (badW ws) ws.length).2)
  else if (firstBad (badM ws ms) ms.length).1 ≠ 0 then ((firstBad (badM ws ms) ms.length).1, 5, (firstBad (badM ws ms) ms.length).2)
  else (0, 0, 0)
/-- Words that are right: each is. -/
def WRgt (ws : List ByteArray) : Prop := ∀ j, j < ws.length → badW ws j = 0
theorem WRgt.size {ws : List ByteArray} (h : WRgt ws) {j : Nat} {w : ByteArray} (hj : ws[j]? = some w) : 2 ≤ w.size ∧ w.size ≤ 256 := by
  have := h j (List.getElem?_eq_some_iff.1 hj).1
  unfold badW at this
  rw [hj] at this
  simp only at this
  by_cases hc : w.size < 2 ∨ 256 < w.size
  · rw [if_pos hc] at this; cases this
  · omega
theorem WRgt.inj {ws : List ByteArray} (h : WRgt ws) {i j : Nat} {w : ByteArray} (hi : ws[i]? = some w) (hj : ws[j]? = some w) : i = j := by
  have key : ∀ i j, i < j → ws[i]? = some w → ws[j]? = some w → False := fun i j hij hi hj => by
    have := h j (List.getElem?_eq_some_iff.1 hj).1
    unfold badW at this
    rw [hj] at this
    simp only at this
    split at this
    · cases this
    · rw [if_pos] at this
      · cases this
      · rw [List.any_eq_true]
        refine ⟨w, ?_, by simp⟩
        rw [List.mem_iff_getElem?]
        exact ⟨i, by rw [List.getElem?_take_of_lt hij]; exact hi⟩
  rcases Nat.lt_trichotomy i j with h1 | h1 | h1
  · exact (key i j h1 hi hj).elim
  · exact h1
  · exact (key j i h1 hj hi).elim
theorem cutM_zero {ws : List ByteArray} {ms : List Mg} {i : Nat} {x : Mg} (hx : ms[i]? = some x) (h : cutM ws ms i = 0) :
    256 ≤ x.i ∧ x.i - 256 < ws.length ∧ madeM ms i x.i = false ∧ madeM ms i x.l = true ∧ madeM ms i x.r = true ∧ wordM ws x.i = some (joinM ws x.l x.r) := by
  unfold cutM at h
  rw [hx] at h
  simp only at h
  by_cases h1 : x.i < 256 ∨ (ws.length : Int) ≤ x.i - 256 ∨ madeM ms i x.i = true
  · rw [if_pos h1] at h; cases h
  · rw [if_neg h1] at h
    by_cases h2 : madeM ms i x.l = false ∨ madeM ms i x.r = false
    · rw [if_pos h2] at h; cases h
    · rw [if_neg h2] at h
      by_cases h3 : wordM ws x.i ≠ some (joinM ws x.l x.r)
      · rw [if_pos h3] at h; cases h
      · refine ⟨by omega, by omega, by simpa using fun e => h1 (.inr (.inr e)), by simpa using fun e => h2 (.inl e), by simpa using fun e => h2 (.inr e), by simpa using h3⟩
theorem wordM_in {ws : List ByteArray} {id : Int} (h : 256 ≤ id) : wordM ws id = ws[(id - 256).toNat]? := by
  unfold wordM
  rw [if_neg (by omega), if_pos h]
theorem made_ahead {ms : List Mg} {i j : Nat} {x : Mg} (hx : ms[j]? = some x) (hj : j < i) (h : 256 ≤ x.i) : madeM ms i x.i = true := by
  unfold madeM
  rw [Bool.or_eq_true, Bool.and_eq_true, Bool.and_eq_true]
  refine .inr ⟨by simpa using h, ?_⟩
  rw [List.any_eq_true]
  refine ⟨x, ?_, by simp⟩
  rw [List.mem_iff_getElem?]
  exact ⟨j, by rw [List.getElem?_take_of_lt hj]; exact hx⟩
/-- A pair that stands twice is refused for another fault. -/
theorem badM_cut {ws : List ByteArray} {ms : List Mg} {i : Nat} (hW : WRgt ws) (hc : ∀ j, j < i → cutM ws ms j = 0) : cutM ws ms i = badM ws ms i := by
  unfold badM
  by_cases h0 : cutM ws ms i ≠ 0
  · rw [if_pos h0]
  · rw [if_neg h0]
    have h0 : cutM ws ms i = 0 := by simpa using h0
    cases hx : ms[i]? with
    | none => simpa using h0
    | some x =>
      simp only
      rw [if_neg, h0]
      intro ha
      obtain ⟨y, hy, hp⟩ := List.any_eq_true.1 ha
      obtain ⟨j, hj⟩ := List.mem_iff_getElem?.1 hy
      have hji : j < i := by
        have := (List.getElem?_eq_some_iff.1 hj).1
        simp at this; omega
      rw [List.getElem?_take_of_lt hji] at hj
      obtain ⟨a1, a2, a3, -, -, a6⟩ := cutM_zero hx h0
      obtain ⟨b1, b2, -, -, -, b6⟩ := cutM_zero hj (hc j hji)
      unfold pairB at hp
      have e1 : y.l = x.l ∧ y.r = x.r := by simpa using hp
      rw [e1.1, e1.2, ← a6, wordM_in a1, wordM_in b1] at b6
      have hlt : (x.i - 256).toNat < ws.length := by omega
      have e2 := hW.inj (List.getElem?_eq_getElem hlt) (b6.trans (List.getElem?_eq_getElem hlt))
      have e3 : x.i = y.i := by omega
      rw [e3, made_ahead hj hji b1] at a3
      cases a3
theorem first_cut {ws : List ByteArray} {ms : List Mg} (hW : WRgt ws) (n : Nat) : firstBad (cutM ws ms) n = firstBad (badM ws ms) n :=
  firstBad_congr fun _ _ hb => badM_cut hW hb
/-- The rank of a pair. -/
def rankM (ms : List Mg) (l r : Int) : Option Nat := ms.findIdx? fun x => pairB x l r
/-- The greatest number of bytes. -/
def longM (ws : List ByteArray) : Nat := ws.foldl (fun n w => if n < w.size then w.size else n) 1
theorem longM_snoc (ws : List ByteArray) (w : ByteArray) : longM (ws ++ [w]) = if longM ws < w.size then w.size else longM ws := by
  unfold longM
  rw [List.foldl_append]
  rfl
theorem longM_step (ws : List ByteArray) (k : Nat) (w : ByteArray) (h : ws[k]? = some w) : longM (ws.take (k + 1)) = if longM (ws.take k) < w.size then w.size else longM (ws.take k) := by
  rw [← longM_snoc]
  congr 1
  rw [List.take_add_one, h]
  rfl
theorem rankM_step (ms : List Mg) (k : Nat) (x : Mg) (h : ms[k]? = some x) (l r : Int) : rankM (ms.take (k + 1)) l r = match rankM (ms.take k) l r with | some i => some i | none => if pairB x l r then some k else none := by
  have e : ms.take (k + 1) = ms.take k ++ [x] := by rw [List.take_add_one, h]; rfl
  have hk : k < ms.length := (List.getElem?_eq_some_iff.1 h).1
  unfold rankM
  rw [e, List.findIdx?_append]
  cases h1 : (ms.take k).findIdx? (fun x => pairB x l r) with
  | some i => simp
  | none =>
    simp only [Option.none_or, List.findIdx?_cons, List.findIdx?_nil]
    have hl : (ms.take k).length = k := by simp; omega
    rw [hl]
    cases hp : pairB x l r <;> simp
end Go.Proofs.YtonbfcpbgkpbaaaGreatDoor
end
section
/- Recipes: what a parser makes of tokens: the mathematics. -/
namespace Go.Proofs.YtonbfcpbgkpbaaaGreatDoor
def zeroT : Tok := ⟨0, 0, []⟩
/-- A parser: has it refused? what stands next. -/
abbrev PS := Bool × List Tok
def mEmpty (k : Nat) (t : Tok) : Bool := t.k == k
def mOf (k : Nat) (ss : List (List UInt8)) (t : Tok) : Bool := t.k == k && ss.contains t.s
def meetP (m : Tok → Bool) (st : PS) : Bool := match st with
  | (false, t :: _) => m t
  | _ => false
def takeP (m : Tok → Bool) (st : PS) : Tok × PS := match st with
  | (false, t :: ts) => if m t = true then (t, (false, ts)) else (zeroT, (true, t :: ts))
  | (_, ts) => (zeroT, (true, ts))
/-- Where and why a token is refused, in a text of n bytes. -/
def refT (n : Nat) (t : Tok) : Nat × Nat := if t.k = 7 ∨ t.k = 8 then (n, 31) else (t.at', 30)
def sgn (l : List UInt8) : Tok → Bool := mOf 5 [l]
def sOpen : List UInt8 := [123]
def sShut : List UInt8 := [125]
def sPlus : List UInt8 := [43]
def sEq : List UInt8 := [61]
def sTo : List UInt8 := [46, 46]
def sMerge : List UInt8 := [109, 101, 114, 103, 101]
def sLetters : List UInt8 := [108, 101, 116, 116, 101, 114, 115]
def sNumbers : List UInt8 := [110, 117, 109, 98, 101, 114, 115]
def sSpaces : List UInt8 := [115, 112, 97, 99, 101, 115]
/-- A rune's value. -/
def runeV (s : List UInt8) : Nat := valF 16 0 (s.drop 2)
structure Wr where
  l : Tok
  r : Tok
  i : Tok
/-- What stands behind a merge's name. -/
def mergeP (st : PS) : Wr × PS :=
  let a := takeP (mEmpty 4) st
  let p := takeP (sgn sPlus) a.2
  let b := takeP (mEmpty 4) p.2
  let q := takeP (sgn sEq) b.2
  let c := takeP (mEmpty 2) q.2
  (⟨a.1, b.1, c.1⟩, c.2)
/-- One span. -/
def spanP (st : PS) : Sp × PS :=
  let a := takeP (mEmpty 3) st
  let lo := runeV a.1.s
  if meetP (sgn sTo) a.2 = true then
    let p := takeP (sgn sTo) a.2
    let b := takeP (mEmpty 3) p.2
    (⟨lo, runeV b.1.s⟩, b.2)
  else (⟨lo, lo⟩, a.2)
def spanF : Nat → PS → List Sp × PS
  | 0, st => ([], st)
  | f + 1, st => if meetP (mEmpty 3) st = true then
      let a := spanP st
      let r := spanF f a.2
      (a.1 :: r.1, r.2)
    else ([], st)
/-- What stands behind a class's name. -/
def spansP (st : PS) : List Sp × PS :=
  let p := takeP (sgn sOpen) st
  let r := spanF p.2.2.length p.2
  (r.1, (takeP (sgn sShut) r.2).2)
structure RD where
  M : List Wr
  A : List Sp
  B : List Sp
  C : List Sp
def nameM : Tok → Bool := mOf 1 [sMerge, sLetters, sNumbers, sSpaces]
def headK (st : PS) : Nat := match st.2 with
  | [] => 8
  | t :: _ => t.k
/-- One rule. -/
def ruleP (st : PS) (d : RD) : RD × PS :=
  let a := takeP nameM st
  if a.1.s = sMerge then let r := mergeP a.2; ({ d with M := d.M ++ [r.1] }, r.2)
  else if a.1.s = sLetters then let r := spansP a.2; ({ d with A := d.A ++ r.1 }, r.2)
  else if a.1.s = sNumbers then let r := spansP a.2; ({ d with B := d.B ++ r.1 }, r.2)
  else if a.1.s = sSpaces then let r := spansP a.2; ({ d with C := d.C ++ r.1 }, r.2)
  else (d, a.2)
def rulesF : Nat → PS → RD → RD × PS
  | 0, st, d => (d, st)
  | f + 1, st, d => if st.1 = false ∧ headK st ≠ 8 then let r := ruleP st d; rulesF f r.2 r.1 else (d, st)
/-- An id of a word: a byte's, or what was made last. -/
def idOfP (made : List (List UInt8 × Nat)) (w : List UInt8) : Option Nat :=
  match w with
  | [c] => some c.toNat
  | _ => (made.find? fun x => x.1 == w).map (·.2)
structure MD where
  W : List (List UInt8)
  made : List (List UInt8 × Nat)
  M : List Mg
/-- One merge's meaning: what is refused, or what is known behind it. -/
def meanP (x : Wr) (d : MD) : Except (Nat × Nat) MD :=
  match idOfP d.made x.l.s with
  | none => .error (x.l.at', 23)
  | some a => match idOfP d.made x.r.s with
    | none => .error (x.r.at', 23)
    | some b =>
      let v := valF 10 0 x.i.s
      if v < 256 ∨ d.W.length ≤ v - 256 ∨ d.W.getD (v - 256) [] ≠ [] then .error (x.i.at', 24)
      else .ok ⟨d.W.set (v - 256) (x.l.s ++ x.r.s), (x.l.s ++ x.r.s, v) :: d.made, d.M ++ [⟨a, b, v⟩]⟩
def meanF : List Wr → MD → Except (Nat × Nat) MD
  | [], d => .ok d
  | x :: l, d => match meanP x d with
    | .error e => .error e
    | .ok d' => meanF l d'
structure PD where
  W : List (List UInt8)
  M : List Mg
  A : List Sp
  B : List Sp
  C : List Sp
/-- What Parse answers: what is refused and at which byte, or the data. -/
def parseA (l : List UInt8) : Except (Nat × Nat) PD :=
  if 4194304 < l.length then .error (0, 3) else
  let ts := strm (l.length + 1) l 0
  let r := rulesF ts.length (false, ts) ⟨[], [], [], []⟩
  if r.2.1 = true then .error (match r.2.2 with | [] => (l.length, 31) | t :: _ => refT l.length t) else
  match meanF r.1.M ⟨List.replicate r.1.M.length [], [], []⟩ with
  | .error e => .error e
  | .ok d => .ok ⟨d.W, d.M, r.1.A, r.1.B, r.1.C⟩
end Go.Proofs.YtonbfcpbgkpbaaaGreatDoor
end
