/- Recipes: the tokens of a text, what a parser makes of them: the mathematics. -/
import Derived.Test.YtonbfcpbgkpbaaaUMath
namespace Go.Proofs.Ytonbfcpbgkpbaaa
/-- Kinds: 1 a name, 2 a number, 3 a rune, 4 a word, 5 a sign, 6 none, 7 an open word, 8 the end. -/
structure Tok where
  k : Nat
  at' : Nat
  s : List UInt8
def smallB (c : UInt8) : Bool := decide (97 ≤ c.toNat) && decide (c.toNat ≤ 122)
def digitB (c : UInt8) : Bool := decide (48 ≤ c.toNat) && decide (c.toNat ≤ 57)
def capB (c : UInt8) : Bool := digitB c || (decide (65 ≤ c.toNat) && decide (c.toNat ≤ 70))
def lowB (c : UInt8) : Bool := digitB c || (decide (97 ≤ c.toNat) && decide (c.toNat ≤ 102))
def onB (c : UInt8) : Bool := smallB c || (decide (65 ≤ c.toNat) && decide (c.toNat ≤ 90)) || digitB c || c.toNat == 95
def shownB (c : UInt8) : Bool := decide (32 ≤ c.toNat) && decide (c.toNat ≤ 126)
def blnkB (c : UInt8) : Bool := c.toNat == 9 || c.toNat == 10 || c.toNat == 13 || c.toNat == 32
/-- The value of a digit of either kind. -/
def digV (c : UInt8) : Nat := if c.toNat ≤ 57 then c.toNat - 48 else if c.toNat ≤ 70 then c.toNat - 55 else c.toNat - 87
/-- May more stand directly behind? -/
def headOn : List UInt8 → Bool
  | [] => false
  | c :: _ => onB c
/-- How many bytes of blanks and remarks stand at the front (true: within a remark). -/
def skipN : Bool → List UInt8 → Nat
  | _, [] => 0
  | r, c :: l => if r = true then (if c.toNat = 10 then 1 + skipN false l else 1 + skipN true l) else (if blnkB c = true then 1 + skipN false l else if c.toNat = 35 then 1 + skipN true l else 0)
def wStep (r : Nat × Nat × List UInt8) : Nat × Nat × List UInt8 := (r.1, r.2.1 + 1, r.2.2)
def wCons (c : UInt8) (r : Nat × Nat × List UInt8) : Nat × Nat × List UInt8 := (r.1, r.2.1 + 1, c :: r.2.2)
def byteV (h c : UInt8) : UInt8 := UInt8.ofNat (digV h * 16 + digV c)
/-- A word behind its first sign: kind, bytes, text (0: between bytes, 1: behind a stroke, 2: behind a digit). -/
def wordW : Nat → UInt8 → List UInt8 → Nat × Nat × List UInt8
  | _, _, [] => (7, 0, [])
  | 0, h, c :: l => if c.toNat = 34 then (4, 1, []) else if c.toNat = 92 then wStep (wordW 1 h l) else if shownB c = true then wCons c (wordW 0 h l) else (6, 0, [])
  | 1, h, c :: l => if c.toNat = 34 ∨ c.toNat = 92 then wCons c (wordW 0 h l) else if lowB c = true then wStep (wordW 2 c l) else (6, 0, [])
  | _ + 2, h, c :: l => if lowB c = true ∧ shownB (byteV h c) = false then wCons (byteV h c) (wordW 0 h l) else (6, 0, [])
/-- A number's value in a base. -/
def valF (b : Nat) : Nat → List UInt8 → Nat
  | n, [] => n
  | n, c :: l => valF b (n * b + digV c) l
def scalarB (n : Nat) : Bool := decide (n ≤ 55295) || (decide (57344 ≤ n) && decide (n ≤ 1114111))
/-- Are these digits those of a rune? -/
def runeDB (l : List UInt8) : Bool := decide (4 ≤ l.length) && decide (l.length ≤ 6) && (decide (l.length ≤ 4) || (l.headD 0).toNat != 48) && scalarB (valF 16 0 l)
def bounded (k n : Nat) (l : List UInt8) : Nat × Nat × List UInt8 := (if headOn (l.drop n) = true then 6 else k, n, l.take n)
def tenDigits : Nat → List UInt8 → Nat
  | 0, _ => 0
  | _ + 1, [] => 0
  | f + 1, c :: l => if digitB c = true then 1 + tenDigits f l else 0
/-- A word's bytes, if it is one. -/
def wordT (R : Nat × Nat × List UInt8) : List UInt8 := if R.1 = 4 then R.2.2 else []
/-- The token at a front: kind, bytes, text. -/
def tokL (l : List UInt8) : Nat × Nat × List UInt8 :=
  match l with
  | [] => (8, 0, [])
  | c :: l' =>
    if c.toNat = 34 then ((wordW 0 0 l').1, (wordW 0 0 l').2.1 + 1, wordT (wordW 0 0 l'))
    else if smallB c = true then bounded 1 (l.takeWhile smallB).length l
    else if c.toNat = 48 then bounded 2 1 l
    else if digitB c = true then bounded 2 (tenDigits 10 l) l
    else if l.take 2 = [85, 43] then bounded (if runeDB ((l.drop 2).takeWhile capB) = true then 3 else 6) (2 + ((l.drop 2).takeWhile capB).length) l
    else if l.take 2 = [46, 46] then (5, 2, l.take 2)
    else if c.toNat = 123 ∨ c.toNat = 125 ∨ c.toNat = 43 ∨ c.toNat = 61 then (5, 1, l.take 1)
    else (6, 0, [])
/-- The tokens from a place on; the last one is none of kinds 1 to 5. -/
def strm : Nat → List UInt8 → Nat → List Tok
  | 0, _, _ => []
  | f + 1, l, p =>
    let q := skipN false l
    let t := tokL (l.drop q)
    ⟨t.1, p + q, t.2.2⟩ :: if t.1 ≤ 5 then strm f (l.drop (q + t.2.1)) (p + q + t.2.1) else []
end Go.Proofs.Ytonbfcpbgkpbaaa
