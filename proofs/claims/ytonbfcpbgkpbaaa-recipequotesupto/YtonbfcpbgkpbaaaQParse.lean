/- Recipes: what a parser makes of tokens: the mathematics. -/
import Derived.Test.YtonbfcpbgkpbaaaQMath
import Derived.Test.YtonbfcpbgkpbaaaMMath
namespace Go.Proofs.Ytonbfcpbgkpbaaa
def zeroT : Tok := ⟨0, 0, []⟩
/-- A parser: has it refused? what stands next. -/
abbrev PS := Bool × List Tok
def mEmpty (k : Nat) (t : Tok) : Bool := t.k == k
def mOf (k : Nat) (ss : List (List UInt8)) (t : Tok) : Bool := t.k == k && ss.contains t.s
def meetP (m : Tok → Bool) (st : PS) : Bool := match st with
  | (false, t :: _) => m t
  | _ => false
def takeP (m : Tok → Bool) (st : PS) : Tok × PS := match st with
  | (false, t :: ts) => if m t = true then (t, (false, ts)) else (zeroT, (true, t :: ts))
  | (_, ts) => (zeroT, (true, ts))
/-- Where and why a token is refused, in a text of n bytes. -/
def refT (n : Nat) (t : Tok) : Nat × Nat := if t.k = 7 ∨ t.k = 8 then (n, 31) else (t.at', 30)
def sgn (l : List UInt8) : Tok → Bool := mOf 5 [l]
def sOpen : List UInt8 := [123]
def sShut : List UInt8 := [125]
def sPlus : List UInt8 := [43]
def sEq : List UInt8 := [61]
def sTo : List UInt8 := [46, 46]
def sMerge : List UInt8 := [109, 101, 114, 103, 101]
def sLetters : List UInt8 := [108, 101, 116, 116, 101, 114, 115]
def sNumbers : List UInt8 := [110, 117, 109, 98, 101, 114, 115]
def sSpaces : List UInt8 := [115, 112, 97, 99, 101, 115]
/-- A rune's value. -/
def runeV (s : List UInt8) : Nat := valF 16 0 (s.drop 2)
structure Wr where
  l : Tok
  r : Tok
  i : Tok
/-- What stands behind a merge's name. -/
def mergeP (st : PS) : Wr × PS :=
  let a := takeP (mEmpty 4) st
  let p := takeP (sgn sPlus) a.2
  let b := takeP (mEmpty 4) p.2
  let q := takeP (sgn sEq) b.2
  let c := takeP (mEmpty 2) q.2
  (⟨a.1, b.1, c.1⟩, c.2)
/-- One span. -/
def spanP (st : PS) : Sp × PS :=
  let a := takeP (mEmpty 3) st
  let lo := runeV a.1.s
  if meetP (sgn sTo) a.2 = true then
    let p := takeP (sgn sTo) a.2
    let b := takeP (mEmpty 3) p.2
    (⟨lo, runeV b.1.s⟩, b.2)
  else (⟨lo, lo⟩, a.2)
def spanF : Nat → PS → List Sp × PS
  | 0, st => ([], st)
  | f + 1, st => if meetP (mEmpty 3) st = true then
      let a := spanP st
      let r := spanF f a.2
      (a.1 :: r.1, r.2)
    else ([], st)
/-- What stands behind a class's name. -/
def spansP (st : PS) : List Sp × PS :=
  let p := takeP (sgn sOpen) st
  let r := spanF p.2.2.length p.2
  (r.1, (takeP (sgn sShut) r.2).2)
structure RD where
  M : List Wr
  A : List Sp
  B : List Sp
  C : List Sp
def nameM : Tok → Bool := mOf 1 [sMerge, sLetters, sNumbers, sSpaces]
def headK (st : PS) : Nat := match st.2 with
  | [] => 8
  | t :: _ => t.k
/-- One rule. -/
def ruleP (st : PS) (d : RD) : RD × PS :=
  let a := takeP nameM st
  if a.1.s = sMerge then let r := mergeP a.2; ({ d with M := d.M ++ [r.1] }, r.2)
  else if a.1.s = sLetters then let r := spansP a.2; ({ d with A := d.A ++ r.1 }, r.2)
  else if a.1.s = sNumbers then let r := spansP a.2; ({ d with B := d.B ++ r.1 }, r.2)
  else if a.1.s = sSpaces then let r := spansP a.2; ({ d with C := d.C ++ r.1 }, r.2)
  else (d, a.2)
def rulesF : Nat → PS → RD → RD × PS
  | 0, st, d => (d, st)
  | f + 1, st, d => if st.1 = false ∧ headK st ≠ 8 then let r := ruleP st d; rulesF f r.2 r.1 else (d, st)
/-- An id of a word: a byte's, or what was made last. -/
def idOfP (made : List (List UInt8 × Nat)) (w : List UInt8) : Option Nat :=
  match w with
  | [c] => some c.toNat
  | _ => (made.find? fun x => x.1 == w).map (·.2)
structure MD where
  W : List (List UInt8)
  made : List (List UInt8 × Nat)
  M : List Mg
/-- One merge's meaning: what is refused, or what is known behind it. -/
def meanP (x : Wr) (d : MD) : Except (Nat × Nat) MD :=
  match idOfP d.made x.l.s with
  | none => .error (x.l.at', 23)
  | some a => match idOfP d.made x.r.s with
    | none => .error (x.r.at', 23)
    | some b =>
      let v := valF 10 0 x.i.s
      if v < 256 ∨ d.W.length ≤ v - 256 ∨ d.W.getD (v - 256) [] ≠ [] then .error (x.i.at', 24)
      else .ok ⟨d.W.set (v - 256) (x.l.s ++ x.r.s), (x.l.s ++ x.r.s, v) :: d.made, d.M ++ [⟨a, b, v⟩]⟩
def meanF : List Wr → MD → Except (Nat × Nat) MD
  | [], d => .ok d
  | x :: l, d => match meanP x d with
    | .error e => .error e
    | .ok d' => meanF l d'
structure PD where
  W : List (List UInt8)
  M : List Mg
  A : List Sp
  B : List Sp
  C : List Sp
/-- What Parse answers: what is refused and at which byte, or the data. -/
def parseA (l : List UInt8) : Except (Nat × Nat) PD :=
  if 4194304 < l.length then .error (0, 3) else
  let ts := strm (l.length + 1) l 0
  let r := rulesF ts.length (false, ts) ⟨[], [], [], []⟩
  if r.2.1 = true then .error (match r.2.2 with | [] => (l.length, 31) | t :: _ => refT l.length t) else
  match meanF r.1.M ⟨List.replicate r.1.M.length [], [], []⟩ with
  | .error e => .error e
  | .ok d => .ok ⟨d.W, d.M, r.1.A, r.1.B, r.1.C⟩
end Go.Proofs.Ytonbfcpbgkpbaaa
