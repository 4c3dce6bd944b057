import Derived.Laws.BitsAllLaws
import Derived.KernelRfl
import Derived.Test.YtplmmamebfpcjaaGreatDoorJ0
import Derived.Test.YtplmmamebfpcjaaGreatDoorRows
import Derived.WalkKit
import Derived.ProofKit
import Derived.Below
import Derived.OpenShut
import Derived.WalkSpells
import Derived.WalkLawsBesides
import Derived.Deep.QuietTactic
import Derived.BigQuiet
import Derived.Laws.StructEq
import Derived.Lib.QuietBelow
import Derived.Lib.SmallJoins
section
/- The plain mathematics of chapter 1's sum: the register's step, by one bit, by four, by a byte. No program is named here. -/
namespace Go.Proofs.YtplmmamebfpcjaaGreatDoor.Oc
set_option maxRecDepth 100000

/-- One bit's step of the register. -/
def hs1 (n : Nat) : Nat := if n % 2 = 1 then (n / 2) ^^^ 3988292384 else n / 2
def hsN : Nat → Nat → Nat
  | 0, n => n
  | j + 1, n => hs1 (hsN j n)
theorem hs1_lt (n : Nat) (h : n < 4294967296) : hs1 n < 4294967296 := by
  unfold hs1
  split
  · exact Nat.xor_lt_two_pow (n := 32) (by omega) (by omega)
  · omega
theorem hsN_lt (j n : Nat) (h : n < 4294967296) : hsN j n < 4294967296 := by
  induction j with
  | zero => exact h
  | succ j ih => exact hs1_lt _ ih
theorem hsN_add (i j n : Nat) : hsN (i + j) n = hsN i (hsN j n) := by
  induction i with
  | zero => simp [hsN]
  | succ i ih => rw [Nat.add_right_comm]; simp only [hsN, ih]
theorem hsN_one (n : Nat) : hsN 1 n = hs1 n := rfl

theorem xor_mod2 (a b : Nat) : (a ^^^ b) % 2 = (a % 2 + b % 2) % 2 := by
  have h : ((a ^^^ b).testBit 0) = (a.testBit 0 ^^ b.testBit 0) := Nat.testBit_xor ..
  simp only [Nat.testBit_zero] at h
  by_cases h1 : a % 2 = 1 <;> by_cases h2 : b % 2 = 1
  · rw [decide_eq_true h1, decide_eq_true h2] at h
    have := of_decide_eq_false h; omega
  · rw [decide_eq_true h1, decide_eq_false h2] at h
    have := of_decide_eq_true h; omega
  · rw [decide_eq_false h1, decide_eq_true h2] at h
    have := of_decide_eq_true h; omega
  · rw [decide_eq_false h1, decide_eq_false h2] at h
    have := of_decide_eq_false h; omega
/-- The step is linear. -/
theorem hs1_xor (a b : Nat) : hs1 (a ^^^ b) = hs1 a ^^^ hs1 b := by
  have hm := xor_mod2 a b
  have hd : (a ^^^ b) / 2 = a / 2 ^^^ b / 2 := Nat.xor_div_two
  unfold hs1
  rw [hm, hd]
  by_cases h1 : a % 2 = 1 <;> by_cases h2 : b % 2 = 1
  · rw [if_neg (by omega), if_pos h1, if_pos h2]
    generalize a / 2 = x; generalize b / 2 = y
    have : x ^^^ 3988292384 ^^^ (y ^^^ 3988292384) = x ^^^ y ^^^ (3988292384 ^^^ 3988292384) := by
      rw [Nat.xor_assoc, Nat.xor_assoc, ← Nat.xor_assoc 3988292384 y, Nat.xor_comm 3988292384 y, Nat.xor_assoc]
    rw [this, Nat.xor_self, Nat.xor_zero]
  · rw [if_pos (by omega), if_pos h1, if_neg h2]
    rw [Nat.xor_assoc, Nat.xor_comm (b / 2), ← Nat.xor_assoc]
  · rw [if_pos (by omega), if_neg h1, if_pos h2]
    rw [Nat.xor_assoc]
  · rw [if_neg (by omega), if_neg h1, if_neg h2]
theorem hsN_xor (j a b : Nat) : hsN j (a ^^^ b) = hsN j a ^^^ hsN j b := by
  induction j with
  | zero => rfl
  | succ j ih => simp only [hsN, ih, hs1_xor]
theorem hs1_zero : hs1 0 = 0 := by rfl
theorem hsN_zero (j : Nat) : hsN j 0 = 0 := by
  induction j with
  | zero => rfl
  | succ j ih => simp only [hsN, ih, hs1_zero]
/-- What has only zeros below is shifted. -/
theorem hsN_shift (j x : Nat) : hsN j (x * 2 ^ j) = x := by
  induction j generalizing x with
  | zero => simp [hsN]
  | succ j ih =>
    rw [Nat.add_comm j 1, hsN_add]
    have : x * 2 ^ (1 + j) = (x * 2) * 2 ^ j := by rw [Nat.pow_add, ← Nat.mul_assoc]
    rw [this, ih, hsN_one, hs1, if_neg (by omega)]
    exact Nat.mul_div_cancel _ (by omega)
theorem split_xor (x j : Nat) : x = (x / 2 ^ j * 2 ^ j) ^^^ (x % 2 ^ j) := by
  apply Nat.eq_of_testBit_eq
  intro i
  rw [Nat.testBit_xor, Nat.testBit_mod_two_pow, Nat.testBit_mul_two_pow, Nat.testBit_div_two_pow]
  by_cases h : i < j
  · simp [h, Nat.not_le.2 h]
  · have : i - j + j = i := by omega
    simp [h, Nat.not_lt.1 h, this]
/-- Four steps by the table. -/
theorem hs4 (x : Nat) : hsN 4 x = (x / 16) ^^^ hsN 4 (x % 16) := by
  have h := split_xor x 4
  calc hsN 4 x = hsN 4 ((x / 2 ^ 4 * 2 ^ 4) ^^^ (x % 2 ^ 4)) := by rw [← h]
    _ = _ := by rw [hsN_xor, hsN_shift]

/-- A byte's step, the whole register. -/
def crcR (r : Nat) (l : List UInt8) : Nat := l.foldl (fun r c => hsN 8 (r ^^^ c.toNat)) r
def crc (l : List UInt8) : Nat := 4294967295 ^^^ crcR 4294967295 l
theorem crcR_lt (l : List UInt8) : ∀ r, r < 4294967296 → crcR r l < 4294967296 := by
  induction l with
  | nil => intro r h; exact h
  | cons c l ih =>
    intro r h
    have hc : c.toNat < 256 := c.toNat_lt
    exact ih _ (hsN_lt _ _ (Nat.xor_lt_two_pow (n := 32) h (by omega)))
theorem crc_lt (l : List UInt8) : crc l < 4294967296 :=
  Nat.xor_lt_two_pow (n := 32) (by omega) (crcR_lt l _ (by omega))
theorem crcR_snoc (r : Nat) (l : List UInt8) (k : Nat) (h : k < l.length) : crcR r (l.take (k + 1)) = hsN 8 (crcR r (l.take k) ^^^ (l.getD k 0).toNat) := by
  unfold crcR
  rw [List.take_add_one, List.foldl_append]
  simp [List.getD, List.getElem?_eq_getElem h]

/-- In the walk's spelling. -/
theorem and1 (n : Nat) (h : n < 4294967296) : (bits BinOp.and IntKind.u32 (n : Int) 1 == 1) = decide (n % 2 = 1) := by
  have := u32_and_nat n 1 h (by omega)
  rw [Nat.and_one_is_mod] at this
  rw [show ((1 : Nat) : Int) = 1 from rfl] at this
  rw [this, Bool.eq_iff_iff]; simp; omega
theorem and15 (n : Nat) (h : n < 4294967296) : bits BinOp.and IntKind.u32 (n : Int) 15 = ((n % 16 : Nat) : Int) := by
  have := u32_and_nat n 15 h (by omega)
  rw [nat_mask4] at this
  exact this
theorem xorp (n : Nat) (h : n < 4294967296) : bits BinOp.xor IntKind.u32 (n : Int) 3988292384 = ((n ^^^ 3988292384 : Nat) : Int) := u32_xor_nat n 3988292384 h (by omega)
theorem odd_in (n : Nat) (h : n < 4294967296) (ho : n % 2 = 1) : (bits BinOp.and IntKind.u32 (n : Int) 1 == 1) = true := by rw [and1 n h]; simpa using ho
theorem even_in (n : Nat) (h : n < 4294967296) (ho : ¬ n % 2 = 1) : (bits BinOp.and IntKind.u32 (n : Int) 1 == 1) = false := by rw [and1 n h]; simpa using ho
theorem odd_out (n : Nat) (h : n < 4294967296) (ho : n % 2 = 1) : bits BinOp.xor IntKind.u32 ((n : Int) / 2) 3988292384 = (hs1 n : Nat) := by
  have := xorp (n / 2) (by omega)
  rw [show (((n / 2 : Nat)) : Int) = (n : Int) / 2 from by omega] at this
  rw [this, hs1, if_pos ho]
theorem even_out (n : Nat) (ho : ¬ n % 2 = 1) : ((n : Int) / 2) = (hs1 n : Nat) := by
  rw [hs1, if_neg ho]; omega
theorem int_eq {k : IntKind} {a b : Int} (h : a = b) : Value.int k a = Value.int k b := by rw [h]

/-- The table. -/
def tabA (k : Nat) : Array Value := Array.ofFn (n := 16) fun i => .int .u32 (if i.val < k then (hsN 4 i.val : Nat) else (0 : Nat) : Nat)
def tabZ : Array Value := #[Value.int IntKind.u32 0, Value.int IntKind.u32 0, Value.int IntKind.u32 0, Value.int IntKind.u32 0,
  Value.int IntKind.u32 0, Value.int IntKind.u32 0, Value.int IntKind.u32 0, Value.int IntKind.u32 0,
  Value.int IntKind.u32 0, Value.int IntKind.u32 0, Value.int IntKind.u32 0, Value.int IntKind.u32 0,
  Value.int IntKind.u32 0, Value.int IntKind.u32 0, Value.int IntKind.u32 0, Value.int IntKind.u32 0]
theorem tabA_zero : tabA 0 = tabZ := by rfl
theorem tabA_size (k : Nat) : (tabA k).size = 16 := by simp [tabA]
theorem tabA_set (k : Nat) (_h : k < 16) : (tabA k).setIfInBounds k (.int .u32 (hsN 4 k : Nat)) = tabA (k + 1) := by
  apply Array.ext
  · simp [tabA]
  · intro i h1 h2
    simp only [tabA, Array.size_setIfInBounds, Array.size_ofFn] at h1
    rw [Array.getElem_setIfInBounds (by simpa [tabA] using h1)]
    simp only [tabA, Array.getElem_ofFn]
    by_cases e : k = i
    · subst e; simp
    · have : (i < k + 1) = (i < k) := by simp; omega
      simp [e, this]
theorem tabA_get (k i : Nat) (h : i < 16) (hk : i < k) : (tabA k)[i]? = some (.int .u32 (hsN 4 i : Nat)) := by
  rw [Array.getElem?_eq_getElem (by simpa [tabA] using h)]
  simp [tabA, hk]
def tabL : Array Value := #[Value.int IntKind.u32 0x00000000, Value.int IntKind.u32 0x1db71064, Value.int IntKind.u32 0x3b6e20c8, Value.int IntKind.u32 0x26d930ac, Value.int IntKind.u32 0x76dc4190, Value.int IntKind.u32 0x6b6b51f4, Value.int IntKind.u32 0x4db26158, Value.int IntKind.u32 0x5005713c, Value.int IntKind.u32 0xedb88320, Value.int IntKind.u32 0xf00f9344, Value.int IntKind.u32 0xd6d6a3e8, Value.int IntKind.u32 0xcb61b38c, Value.int IntKind.u32 0x9b64c2b0, Value.int IntKind.u32 0x86d3d2d4, Value.int IntKind.u32 0xa00ae278, Value.int IntKind.u32 0xbdbdf21c]
theorem tabL_eq : tabA 16 = tabL := by kernel_rfl
theorem tabL_get (i : Nat) (h : i < 16) : tabL[i]? = some (.int .u32 (hsN 4 i : Nat)) := by rw [← tabL_eq]; exact tabA_get 16 i h h
end Go.Proofs.YtplmmamebfpcjaaGreatDoor.Oc
end
section
/- Files: what is read of bytes, what is written: the mathematics. -/
namespace Go.Proofs.YtplmmamebfpcjaaGreatDoor
set_option maxRecDepth 100000
open Oc
/-- Where, and why. -/
abbrev Er := Nat × Nat
/-- The number at p, from lo to hi; else why. -/
def numP (l : List UInt8) (lo hi why p : Nat) : Except Er (Nat × Nat) :=
  if p + 4 ≤ l.length then (if num4 l p < lo ∨ hi < num4 l p then .error (p, why) else .ok (num4 l p, p + 4)) else .error (l.length, 10)
theorem numP_short {l : List UInt8} {lo hi why p : Nat} (h : ¬ p + 4 ≤ l.length) : numP l lo hi why p = .error (l.length, 10) := by unfold numP; rw [if_neg h]
theorem numP_bad {l : List UInt8} {lo hi why p : Nat} (h : p + 4 ≤ l.length) (h2 : num4 l p < lo ∨ hi < num4 l p) : numP l lo hi why p = .error (p, why) := by unfold numP; rw [if_pos h, if_pos h2]
theorem numP_ok {l : List UInt8} {lo hi why p : Nat} (h : p + 4 ≤ l.length) (h2 : ¬ (num4 l p < lo ∨ hi < num4 l p)) : numP l lo hi why p = .ok (num4 l p, p + 4) := by unfold numP; rw [if_pos h, if_neg h2]
theorem numP_inv {l : List UInt8} {lo hi why p n q : Nat} (h : numP l lo hi why p = .ok (n, q)) : p + 4 ≤ l.length ∧ q = p + 4 ∧ n = num4 l p ∧ lo ≤ n ∧ n ≤ hi := by
  unfold numP at h
  by_cases h1 : p + 4 ≤ l.length
  · rw [if_pos h1] at h
    by_cases h2 : num4 l p < lo ∨ hi < num4 l p
    · rw [if_pos h2] at h; cases h
    · rw [if_neg h2] at h
      cases h
      exact ⟨h1, rfl, rfl, by omega, by omega⟩
  · rw [if_neg h1] at h; cases h
/-- One behind the other. -/
def andP {α β : Type} (x : Except Er (α × Nat)) (f : α → Nat → Except Er β) : Except Er β :=
  match x with
  | .error e => .error e
  | .ok (a, p) => f a p
/-- n rows, each with its place. -/
def manyP {α : Type} (f : Nat → Except Er (α × Nat)) : Nat → Nat → Except Er (List (α × Nat) × Nat)
  | 0, p => .ok ([], p)
  | n + 1, p => andP (manyP f n p) fun l q => andP (f q) fun x r => .ok (l ++ [(x, q)], r)
theorem manyP_zero {α : Type} (f : Nat → Except Er (α × Nat)) (p : Nat) : manyP f 0 p = .ok ([], p) := rfl
theorem manyP_go {α : Type} {f : Nat → Except Er (α × Nat)} {n p : Nat} {l : List (α × Nat)} {q : Nat} (h : manyP f n p = .ok (l, q)) : manyP f (n + 1) p = andP (f q) fun x r => .ok (l ++ [(x, q)], r) := by
  show andP (manyP f n p) _ = _
  rw [h]; rfl
theorem manyP_err {α : Type} {f : Nat → Except Er (α × Nat)} {n p : Nat} {e : Er} (h : manyP f n p = .error e) : manyP f (n + 1) p = .error e := by
  show andP (manyP f n p) _ = _
  rw [h]; rfl
theorem manyP_stop {α : Type} {f : Nat → Except Er (α × Nat)} {n p : Nat} {e : Er} (h : manyP f n p = .error e) : ∀ k, n ≤ k → manyP f k p = .error e := by
  intro k hk
  induction k with
  | zero => obtain rfl : n = 0 := by omega
            exact h
  | succ k ih =>
    rcases Nat.lt_or_ge n (k + 1) with h1 | h1
    · exact manyP_err (ih (by omega))
    · obtain rfl : n = k + 1 := by omega
      exact h
theorem manyP_len {α : Type} {f : Nat → Except Er (α × Nat)} {p : Nat} : ∀ {n : Nat} {l : List (α × Nat)} {q : Nat}, manyP f n p = .ok (l, q) → l.length = n := by
  intro n
  induction n with
  | zero => intro l q h; cases h; rfl
  | succ n ih =>
    intro l q h
    cases hx : manyP f n p with
    | error e => rw [manyP_err hx] at h; cases h
    | ok a =>
      obtain ⟨m, r⟩ := a
      rw [manyP_go hx] at h
      cases hf : f r with
      | error e => rw [hf] at h; cases h
      | ok b =>
        obtain ⟨x, s⟩ := b
        rw [hf] at h
        cases h
        simp [ih hx]
/-- The word at p. -/
def wordP (l : List UInt8) (p : Nat) : Except Er (ByteArray × Nat) :=
  andP (numP l 2 256 21 p) fun n q => if q + n ≤ l.length then .ok (textOf ((l.drop q).take n), q + n) else .error (l.length, 10)
def idP (l : List UInt8) (p : Nat) : Except Er (Nat × Nat) := numP l 0 2147483647 24 p
def endP (l : List UInt8) (p : Nat) : Except Er (Nat × Nat) := numP l 0 1114111 14 p
/-- The merge at p. -/
def mgP (l : List UInt8) (p : Nat) : Except Er (Mg × Nat) :=
  andP (idP l p) fun a q => andP (idP l q) fun b r => andP (idP l r) fun c s => .ok (⟨a, b, c⟩, s)
/-- The span at p. -/
def spP (l : List UInt8) (p : Nat) : Except Er (Sp × Nat) :=
  andP (endP l p) fun a q => andP (endP l q) fun b r => .ok (⟨a, b⟩, r)
/-- The spans at p, behind their number. -/
def listP (l : List UInt8) (p : Nat) : Except Er (List (Sp × Nat) × Nat) :=
  andP (numP l 0 512 4 p) fun n q => manyP (spP l) n q
/-- All that was read; where the number of spaces stands. -/
structure Raw where
  ws : List (ByteArray × Nat)
  ms : List (Mg × Nat)
  A : List (Sp × Nat)
  B : List (Sp × Nat)
  C : List (Sp × Nat)
  blank : Nat
def Raw.W (r : Raw) : List ByteArray := r.ws.map Prod.fst
def Raw.M (r : Raw) : List Mg := r.ms.map Prod.fst
def Raw.X (r : Raw) : List Sp := r.A.map Prod.fst
def Raw.Y (r : Raw) : List Sp := r.B.map Prod.fst
def Raw.Z (r : Raw) : List Sp := r.C.map Prod.fst
/-- All but the sum, from p on. -/
def bodyP (l : List UInt8) (p : Nat) : Except Er (Raw × Nat) :=
  andP (numP l 0 4096 4 p) fun n p1 => andP (manyP (wordP l) n p1) fun ws p2 => andP (manyP (mgP l) n p2) fun ms p3 =>
  andP (listP l p3) fun A p4 => andP (listP l p4) fun B p5 => andP (listP l p5) fun C p6 => .ok (⟨ws, ms, A, B, C, p5⟩, p6)
def sumP (l : List UInt8) (p : Nat) : Except Er Unit :=
  andP (numP l 0 4294967295 0 p) fun s q => if q < l.length then .error (q, 13) else if s ≠ crc (l.take p) then .error (p, 12) else .ok ()
def magicL : List UInt8 := [66, 80, 69, 49]
/-- The first byte that isn't a file's. -/
def magicP (l : List UInt8) : Option Nat := (List.range 4).find? fun i => decide (l[i]? ≠ magicL[i]?)
def rawP (l : List UInt8) : Except Er Raw :=
  match magicP l with
  | some i => .error (i, 11)
  | none => andP (bodyP l 4) fun r p => match sumP l p with | .error e => .error e | .ok _ => .ok r
/-- The place of the row that a fault tells. -/
def placesR (r : Raw) : Nat → List Nat
  | 1 => r.A.map Prod.snd
  | 2 => r.B.map Prod.snd
  | 3 => r.C.map Prod.snd
  | 4 => r.ws.map Prod.snd
  | 5 => r.ms.map Prod.snd
  | _ => []
def placeR (r : Raw) (li ro : Nat) : Nat := (placesR r li).getD ro r.blank
/-- P6.2. -/
def loadR (l : List UInt8) : Except Er Raw :=
  if 4194304 < l.length then .error (0, 3) else
  match rawP l with
  | .error e => .error e
  | .ok r => if (checkD r.W r.M r.X r.Y r.Z).1 = 0 then .ok r else .error (placeR r (checkD r.W r.M r.X r.Y r.Z).2.1 (checkD r.W r.M r.X r.Y r.Z).2.2, (checkD r.W r.M r.X r.Y r.Z).1)
/-- P6.1. -/
def wordsF (ws : List ByteArray) : List UInt8 := ws.flatMap fun w => be4 w.size ++ w.data.toList
def mgF (x : Mg) : List UInt8 := be4 x.l.toNat ++ be4 x.r.toNat ++ be4 x.i.toNat
def spF (x : Sp) : List UInt8 := be4 x.lo.toNat ++ be4 x.hi.toNat
def mgsF (ms : List Mg) : List UInt8 := ms.flatMap mgF
def spansF (l : List Sp) : List UInt8 := be4 l.length ++ l.flatMap spF
def bodyF (ws : List ByteArray) (ms : List Mg) (A B C : List Sp) : List UInt8 := magicL ++ be4 ws.length ++ wordsF ws ++ mgsF ms ++ spansF A ++ spansF B ++ spansF C
def fileF (ws : List ByteArray) (ms : List Mg) (A B C : List Sp) : List UInt8 := bodyF ws ms A B C ++ be4 (crc (bodyF ws ms A B C))
theorem be4_length (n : Nat) : (be4 n).length = 4 := rfl
end Go.Proofs.YtplmmamebfpcjaaGreatDoor
end
section
/- Lists of spans in memory; the two package-level variables. -/
namespace Go.Proofs.YtplmmamebfpcjaaGreatDoor
open Go.RowKit
/-- Its value. -/
def spv (x : Sp) : Value := .agg #[.int .i32 x.lo, .int .i32 x.hi]
/-- A span's two cells. -/
def SpAt (w : World) (b off : Nat) (x : Sp) : Prop := w.cell? ⟨b, off, none⟩ = some (.int .i32 x.lo) ∧ w.cell? ⟨b, off + 1, none⟩ = some (.int .i32 x.hi)
theorem SpAt.below {w w' : World} {b off : Nat} {x : Sp} (h : SpAt w b off x) (hb : Below w.heap.size w w') : SpAt w' b off x :=
  ⟨(hb.cell (World.block_lt_of_cell? w _ h.1)).trans h.1, (hb.cell (World.block_lt_of_cell? w _ h.2)).trans h.2⟩
/-- The slice that begins at a holds the spans l. -/
def SPS (w : World) (a : Option Addr) (l : List Sp) : Prop :=
  l = [] ∨ ∃ b off, a = some ⟨b, off, none⟩ ∧ ∀ i x, l[i]? = some x → SpAt w b (off + i * 2) x
theorem SPS.below {w w' : World} {a : Option Addr} {l : List Sp} (h : SPS w a l) (hb : Below w.heap.size w w') : SPS w' a l := by
  rcases h with h | ⟨b, off, rfl, hc⟩
  · exact .inl h
  · exact .inr ⟨b, off, rfl, fun i x hx => (hc i x hx).below hb⟩
theorem SPS.take {w : World} {a : Option Addr} {l : List Sp} (h : SPS w a l) (n : Nat) : SPS w a (l.take n) := by
  rcases h with rfl | ⟨b, off, rfl, hc⟩
  · exact .inl (by simp)
  · refine .inr ⟨b, off, rfl, fun i x hx => hc i x ?_⟩
    rw [List.getElem?_take] at hx
    split at hx
    · exact hx
    · cases hx
/-- What the package-level variables hold: block 0: nothing; block 2: runes. -/
def GL (w : World) : Prop := SpAt w 0 0 ⟨0, -1⟩ ∧ SpAt w 2 0 lowR ∧ SpAt w 2 2 highR
theorem GL.below {w w' : World} (h : GL w) (hb : Below w.heap.size w w') : GL w' := ⟨h.1.below hb, h.2.1.below hb, h.2.2.below hb⟩
theorem cell_alloc_s {w : World} {a : Addr} {v : Value} (h : w.cell? a = some v) (o : Obj) : (w.alloc o).cell? a = some v :=
  (((Below.refl w.heap.size w).alloc (Nat.le_refl _) o).cell (World.block_lt_of_cell? w _ h)).trans h
/-- Their cells, one by one; there are two blocks at the least. -/
theorem GL.cells {w : World} (h : GL w) : w.cell? ⟨0, 0, none⟩ = some (.int .i32 0) ∧ w.cell? ⟨0, 1, none⟩ = some (.int .i32 (-1)) ∧ w.cell? ⟨2, 0, none⟩ = some (.int .i32 0) ∧ w.cell? ⟨2, 1, none⟩ = some (.int .i32 55295) ∧
    w.cell? ⟨2, 2, none⟩ = some (.int .i32 57344) ∧ w.cell? ⟨2, 3, none⟩ = some (.int .i32 1114111) ∧ w.heap.size ≠ 0 ∧ w.heap.size ≠ 2 := by
  have := World.block_lt_of_cell? w _ h.2.1.1
  have h9 := World.block_lt_of_cell? w _ h.1.1
  simp only at this h9
  exact ⟨h.1.1, h.1.2, h.2.1.1, h.2.1.2, h.2.2.1, h.2.2.2, by omega, by omega⟩
end Go.Proofs.YtplmmamebfpcjaaGreatDoor
end
section
/- Two spans held against each other. -/
namespace Go.Proofs.YtplmmamebfpcjaaGreatDoor
open Go.RowKit
def fLo : Field := Field.mk "Lo" 21 0 false "" "" 0
def fHi : Field := Field.mk "Hi" 21 1 false "" "" 4
theorem fields26 : Tryz.prog.fieldsOf 78 = #[fLo, fHi] := by kernel_rfl
theorem und26 : Tryz.prog.underlying 78 = some (.struct #[fLo, fHi]) := by kernel_rfl
theorem held26 : Tryz.prog.stoodInHeld 78 = false := by kernel_rfl
def spEq (x y : Sp) : Bool := x.lo == y.lo && x.hi == y.hi
theorem equal_sp (a b c d : Int) (W : World) : (Op.equalIn 10000 78 (.agg #[.int .i32 a, .int .i32 b]) (.agg #[.int .i32 c, .int .i32 d])).run Tryz.prog W = .ok (a == c && b == d) W := by
  rw [run_equalIn_agg W 9999 78 _ _ (by rw [fields26]; exact und26) held26, fields26]
  simp [go_sem, Op.eqFields, fLo, fHi, part]
  by_cases h1 : a = c
  · by_cases h2 : b = d
    · simp [h1, h2]
    · simp [h1, h2]
  · simp [h1]
theorem eql_sp (x y : Sp) (v : Bool) (h : spEq x y = v) (W : World) : (binOp BinOp.eql 78 (.agg #[.int .i32 x.lo, .int .i32 x.hi]) (.agg #[.int .i32 y.lo, .int .i32 y.hi])).run Tryz.prog W = .ok (.bool v) W := by
  rw [run_eql_struct, equal_sp, ← h]
  rfl
theorem neq_sp (x y : Sp) (v : Bool) (h : (!spEq x y) = v) (W : World) : (binOp BinOp.neq 78 (.agg #[.int .i32 x.lo, .int .i32 x.hi]) (.agg #[.int .i32 y.lo, .int .i32 y.hi])).run Tryz.prog W = .ok (.bool v) W := by
  rw [run_neq_struct, equal_sp, ← h]
  rfl
theorem eqIn_sp (x y : Sp) (v : Bool) (h : spEq x y = v) (W : World) : (Op.equalIn 10000 78 (.agg #[.int .i32 x.lo, .int .i32 x.hi]) (.agg #[.int .i32 y.lo, .int .i32 y.hi])).run Tryz.prog W = .ok v W := by
  rw [equal_sp, ← h]
  rfl
/-- The guard of a comparison of structs: nothing to panic over. -/
theorem guard26 : Tryz.prog.eqGuardType Tryz.prog.depth 78 = false := by kernel_rfl
theorem spEq_self (x : Sp) : spEq x x = true := by simp [spEq]
/-- A rune and a part of all runes. -/
theorem com_one (r : Int) (p : Sp) : spEq (comL ⟨r, r⟩ p) ⟨r, r⟩ = (decide (p.lo ≤ r) && decide (r ≤ p.hi)) := by
  unfold spEq comL
  by_cases h1 : p.lo ≤ r
  · by_cases h2 : r ≤ p.hi
    · have e1 : max r p.lo = r := by omega
      have e2 : min r p.hi = r := by omega
      rw [if_neg (by simp only; omega)]
      simp [e1, e2, h1, h2]
    · rw [if_pos (by simp only; omega)]
      simp [h2]
      omega
  · rw [if_pos (by simp only; omega)]
    simp [h1]
    omega
end Go.Proofs.YtplmmamebfpcjaaGreatDoor
end
section
/- spans.common, spans.isRune: their contracts. -/
namespace Go.Proofs.YtplmmamebfpcjaaGreatDoor
open Go.RowKit Go.Sort
set_option maxHeartbeats 1000000 in
theorem common_any (x y : Sp) (w : World) (hG : GL w) : Calls Tryz.prog 114 #[spv x, spv y] w fun e w' => e = .returned (spv (comL x y)) ∧ Below w.heap.size w w' := by
  obtain ⟨g0, g1, -⟩ := hG.cells
  clear hG
  have hA0 := cell_alloc_s g0
  have hA1 := cell_alloc_s g1
  have hA2 := fun o => cell_alloc_s (hA0 o)
  have hA3 := fun o => cell_alloc_s (hA1 o)
  have hm : max x.lo y.lo = (if x.lo < y.lo then y.lo else x.lo) := by split <;> omega
  have hn : min x.hi y.hi = (if y.hi < x.hi then y.hi else x.hi) := by split <;> omega
  unfold comL
  rw [hm, hn]
  obtain ⟨m, hM⟩ : ∃ m, (if x.lo < y.lo then y.lo else x.lo) = m := ⟨_, rfl⟩
  obtain ⟨n, hN⟩ : ∃ n, (if y.hi < x.hi then y.hi else x.hi) = n := ⟨_, rfl⟩
  rw [hM, hN]
  clear hm hn g0 g1
  have hb : ∀ a b c d : Obj, Below w.heap.size w ((((w.alloc a).alloc b).alloc c).alloc d) := fun a b c d => ((((Below.refl _ w).alloc (Nat.le_refl _) a).alloc (by simp) b).alloc (by simp; omega) c).alloc (by simp; omega) d
  unfold spv
  by_cases hlt : n < m
  · rw [if_pos hlt]
    go_enter Tryz.func114, Tryz.ntmps114
    go_wp2_with fail
    exact bodyPost_ret (v := spv ⟨0, -1⟩) (by simp [results, Tryz.results114, go_sem, spv]) rfl ⟨rfl, hb _ _ _ _⟩
  · rw [if_neg hlt]
    go_enter Tryz.func114, Tryz.ntmps114
    go_wp2_with fail
    exact bodyPost_ret (v := spv ⟨m, n⟩) (by simp [results, Tryz.results114, go_sem, spv]) rfl ⟨rfl, hb _ _ _ _⟩
/-- The array of all runes, its two spans. -/
theorem part0 (W : World) : (Instr.index 192 (.agg #[.int .i32 0, .int .i32 55295, .int .i32 57344, .int .i32 1114111]) (.int .i64 0)).run Tryz.prog W = .ok (.agg #[.int .i32 0, .int .i32 55295]) W := by kernel_rfl
theorem part1 (W : World) : (Instr.index 192 (.agg #[.int .i32 0, .int .i32 55295, .int .i32 57344, .int .i32 1114111]) (.int .i64 1)).run Tryz.prog W = .ok (.agg #[.int .i32 57344, .int .i32 1114111]) W := by kernel_rfl
set_option maxHeartbeats 1000000 in
theorem isRune_any (r : Int) (w : World) (hG : GL w) : Calls Tryz.prog 113 #[.int .i32 r] w fun e w' => e = .returned (.bool (runeB r)) ∧ Below w.heap.size w w' := by
  have hG0 := hG.below ((Below.refl w.heap.size w).alloc (Nat.le_refl _) (.cells #[.int .i32 r, .int .i32 r] 78))
  have hr : runeB r = true ↔ (0 ≤ r ∧ r ≤ 55295) ∨ (57344 ≤ r ∧ r ≤ 1114111) := by rw [runeB_iff]; omega
  obtain ⟨B, hB⟩ : ∃ B, runeB r = B := ⟨_, rfl⟩
  rw [hB] at hr ⊢
  clear hB
  have hp0 := part0
  have hp1 := part1
  obtain ⟨-, -, g2, g3, g4, g5, -⟩ := hG.cells
  have g2 := cell_alloc_s g2
  have g3 := cell_alloc_s g3
  have g4 := cell_alloc_s g4
  have g5 := cell_alloc_s g5
  clear hG
  go_enter Tryz.func113, Tryz.ntmps113
  have hb0 : Below w.heap.size w (w.alloc (.cells #[.int .i32 r, .int .i32 r] 78)) := (Below.refl _ _).alloc (Nat.le_refl _) _
  have hs0 : w.heap.size < (w.alloc (.cells #[.int .i32 r, .int .i32 r] 78)).heap.size := by simp
  have ho0 : SpAt (w.alloc (.cells #[.int .i32 r, .int .i32 r] 78)) w.heap.size 0 ⟨r, r⟩ := ⟨by simp [go_sem], by simp [go_sem]⟩
  go_wp2_with fail
  clear g2 g3 g4 g5
  obtain ⟨W0, hW0⟩ : ∃ W0, W0 = w.alloc (.cells #[.int .i32 r, .int .i32 r] 78) := ⟨_, rfl⟩
  rw [← hW0] at hG0 hb0 hs0 ho0 ⊢
  clear hW0
  go_loopw [10] (fun i wr => ∃ k : Nat, k ≤ 2 ∧ i = .int .i64 k ∧ Below w.heap.size w wr ∧ w.heap.size < wr.heap.size ∧ SpAt wr w.heap.size 0 ⟨r, r⟩ ∧ GL wr ∧ (0 < k → ¬ (0 ≤ r ∧ r ≤ 55295)) ∧ (1 < k → ¬ (57344 ≤ r ∧ r ≤ 1114111))) (fun i _ => 2 - (intOf i).toNat)
  case atStart => exact ⟨0, Nat.zero_le _, rfl, hb0, hs0, ho0, hG0, by omega, by omega⟩
  case round =>
    clear hG0 hb0 hs0 ho0
    obtain ⟨k, hk, rfl, hb, hsz, ⟨c0, c1⟩, hGr, n0, n1⟩ := hrel
    match k, hk with
    | 0, _ =>
      have q : spEq (comL ⟨r, r⟩ ⟨0, 55295⟩) ⟨r, r⟩ = (decide (0 ≤ r) && decide (r ≤ 55295)) := com_one r ⟨0, 55295⟩
      have hb2 : Below w.heap.size w (wr.alloc (.cells #[.int .i32 0, .int .i32 55295] 78)) := hb.alloc hb.size _
      have hG2 : GL (wr.alloc (.cells #[.int .i32 0, .int .i32 55295] 78)) := hGr.below ((Below.refl _ wr).alloc (Nat.le_refl _) _)
      have o2 : SpAt (wr.alloc (.cells #[.int .i32 0, .int .i32 55295] 78)) w.heap.size 0 ⟨r, r⟩ := SpAt.below ⟨c0, c1⟩ ((Below.refl _ wr).alloc (Nat.le_refl _) _)
      have p2 : SpAt (wr.alloc (.cells #[.int .i32 0, .int .i32 55295] 78)) wr.heap.size 0 ⟨0, 55295⟩ := ⟨by simp [go_sem], by simp [go_sem]⟩
      have s2 : w.heap.size < (wr.alloc (.cells #[.int .i32 0, .int .i32 55295] 78)).heap.size := by simp; omega
      go_wp2_with fail
      obtain ⟨W, hW⟩ : ∃ W, W = wr.alloc (.cells #[.int .i32 0, .int .i32 55295] 78) := ⟨_, rfl⟩
      rw [← hW] at hb2 hG2 o2 p2 s2 ⊢
      clear hW c0 c1 hb hsz hGr hp0 hp1
      have HC := fun d os => common_any ⟨r, r⟩ ⟨0, 55295⟩ (grow (redrawn W d) os) (hG2.below (below_regrown W d os))
      unfold spv at HC
      obtain ⟨v, hv⟩ : ∃ v, spEq (comL ⟨r, r⟩ ⟨0, 55295⟩) ⟨r, r⟩ = v := ⟨_, rfl⟩
      rw [hv] at q
      have HQ : Hid (v = (decide (0 ≤ r) && decide (r ≤ 55295))) := q
      clear q
      have HE := eqIn_sp (comL ⟨r, r⟩ ⟨0, 55295⟩) ⟨r, r⟩ v hv
      have HF := eql_sp (comL ⟨r, r⟩ ⟨0, 55295⟩) ⟨r, r⟩ v hv
      clear hv
      obtain ⟨c, hc⟩ : ∃ c, c = comL ⟨r, r⟩ ⟨0, 55295⟩ := ⟨_, rfl⟩
      rw [← hc] at HC HE HF
      clear hc
      have H2 := o2
      obtain ⟨k0, k1⟩ := o2
      obtain ⟨l0, l1⟩ := p2
      have k0 := cell_regrown k0
      have k1 := cell_regrown k1
      have l0 := cell_regrown l0
      have l1 := cell_regrown l1
      dsimp only at k0 k1 l0 l1 HE HF HC
      refine wp_region_quiet_below (by kernel_rfl) (by kernel_rfl) ?_
      repeat (go_big_quiet_step ((go_at_call 114; exact Calls.regrown_of (HC _ _))))
      refine wpQuiet_nil ?_
      intro W5 hw'
      have hb5 : Below W.heap.size W W5 := by
        obtain ⟨⟨dq, osq⟩, rfl⟩ := hw'
        exact below_regrown _ _ _
      clear hw' k0 k1 l0 l1 HE HF HC
      cases v with
      | true =>
        have hBt : B = true := hr.2 (by have q := HQ.out.symm; simp at q; omega)
        subst hBt
        clear HQ hr n0 n1
        go_wp2_with fail
        go_ret
        exact ⟨rfl, hb2.trans (hb5.mono hb2.size)⟩
      | false =>
        have hn : ¬ (0 ≤ r ∧ r ≤ 55295) := fun ⟨h1, h2⟩ => by have q := HQ.out; rw [decide_eq_true h1, decide_eq_true h2] at q; cases q
        clear HQ
        go_wp2_with fail
        exact ⟨⟨1, by omega, rfl, hb2.trans (hb5.mono hb2.size), Nat.lt_of_lt_of_le s2 hb5.size, H2.below hb5, hG2.below hb5, fun _ => hn, fun h => absurd h (by omega)⟩, by simp [intOf]⟩
    | 1, _ =>
      have q : spEq (comL ⟨r, r⟩ ⟨57344, 1114111⟩) ⟨r, r⟩ = (decide (57344 ≤ r) && decide (r ≤ 1114111)) := com_one r ⟨57344, 1114111⟩
      have hb2 : Below w.heap.size w (wr.alloc (.cells #[.int .i32 57344, .int .i32 1114111] 78)) := hb.alloc hb.size _
      have hG2 : GL (wr.alloc (.cells #[.int .i32 57344, .int .i32 1114111] 78)) := hGr.below ((Below.refl _ wr).alloc (Nat.le_refl _) _)
      have o2 : SpAt (wr.alloc (.cells #[.int .i32 57344, .int .i32 1114111] 78)) w.heap.size 0 ⟨r, r⟩ := SpAt.below ⟨c0, c1⟩ ((Below.refl _ wr).alloc (Nat.le_refl _) _)
      have p2 : SpAt (wr.alloc (.cells #[.int .i32 57344, .int .i32 1114111] 78)) wr.heap.size 0 ⟨57344, 1114111⟩ := ⟨by simp [go_sem], by simp [go_sem]⟩
      have s2 : w.heap.size < (wr.alloc (.cells #[.int .i32 57344, .int .i32 1114111] 78)).heap.size := by simp; omega
      go_wp2_with fail
      obtain ⟨W, hW⟩ : ∃ W, W = wr.alloc (.cells #[.int .i32 57344, .int .i32 1114111] 78) := ⟨_, rfl⟩
      rw [← hW] at hb2 hG2 o2 p2 s2 ⊢
      clear hW c0 c1 hb hsz hGr hp0 hp1
      have HC := fun d os => common_any ⟨r, r⟩ ⟨57344, 1114111⟩ (grow (redrawn W d) os) (hG2.below (below_regrown W d os))
      unfold spv at HC
      obtain ⟨v, hv⟩ : ∃ v, spEq (comL ⟨r, r⟩ ⟨57344, 1114111⟩) ⟨r, r⟩ = v := ⟨_, rfl⟩
      rw [hv] at q
      have HQ : Hid (v = (decide (57344 ≤ r) && decide (r ≤ 1114111))) := q
      clear q
      have HE := eqIn_sp (comL ⟨r, r⟩ ⟨57344, 1114111⟩) ⟨r, r⟩ v hv
      have HF := eql_sp (comL ⟨r, r⟩ ⟨57344, 1114111⟩) ⟨r, r⟩ v hv
      clear hv
      obtain ⟨c, hc⟩ : ∃ c, c = comL ⟨r, r⟩ ⟨57344, 1114111⟩ := ⟨_, rfl⟩
      rw [← hc] at HC HE HF
      clear hc
      have H2 := o2
      obtain ⟨k0, k1⟩ := o2
      obtain ⟨l0, l1⟩ := p2
      have k0 := cell_regrown k0
      have k1 := cell_regrown k1
      have l0 := cell_regrown l0
      have l1 := cell_regrown l1
      dsimp only at k0 k1 l0 l1 HE HF HC
      refine wp_region_quiet_below (by kernel_rfl) (by kernel_rfl) ?_
      repeat (go_big_quiet_step ((go_at_call 114; exact Calls.regrown_of (HC _ _))))
      refine wpQuiet_nil ?_
      intro W5 hw'
      have hb5 : Below W.heap.size W W5 := by
        obtain ⟨⟨dq, osq⟩, rfl⟩ := hw'
        exact below_regrown _ _ _
      clear hw' k0 k1 l0 l1 HE HF HC
      cases v with
      | true =>
        have hBt : B = true := hr.2 (by have q := HQ.out.symm; simp at q; omega)
        subst hBt
        clear HQ hr n0 n1
        go_wp2_with fail
        go_ret
        exact ⟨rfl, hb2.trans (hb5.mono hb2.size)⟩
      | false =>
        have hn : ¬ (57344 ≤ r ∧ r ≤ 1114111) := fun ⟨h1, h2⟩ => by have q := HQ.out; rw [decide_eq_true h1, decide_eq_true h2] at q; cases q
        clear HQ
        go_wp2_with fail
        exact ⟨⟨2, by omega, rfl, hb2.trans (hb5.mono hb2.size), Nat.lt_of_lt_of_le s2 hb5.size, H2.below hb5, hG2.below hb5, fun _ => n0 (by omega), fun _ => hn⟩, by simp [intOf]⟩
    | 2, _ =>
      have hBf : B = false := by
        cases B with
        | false => rfl
        | true => exact absurd (hr.1 rfl) (by have := n0 (by omega); have := n1 (by omega); omega)
      subst hBf
      clear c0 c1 hGr hr n0 n1
      go_wp2_with fail
      go_ret
      exact ⟨rfl, hb⟩
end Go.Proofs.YtplmmamebfpcjaaGreatDoor
end
section
/- spans.Right, the document's own Rune and Right: their contracts. -/
namespace Go.Proofs.YtplmmamebfpcjaaGreatDoor
open Go.RowKit Go.Sort
theorem badAt_14 {l : List Sp} {k : Nat} {x : Sp} (hx : l[k]? = some x) (h : runeB x.lo = false ∨ runeB x.hi = false) : badAt l k = 14 := by
  unfold badAt; rw [hx]; simp only; rw [if_pos h]
theorem badAt_15a {l : List Sp} {k : Nat} {x : Sp} (hx : l[k]? = some x) (h1 : runeB x.lo = true) (h2 : runeB x.hi = true) (h : x.hi < x.lo) : badAt l k = 15 := by
  unfold badAt; rw [hx]; simp only; rw [if_neg (by rw [h1, h2]; simp), if_pos h]
theorem badAt_15b {l : List Sp} {k : Nat} {x y : Sp} (hx : l[k + 1]? = some x) (hy : l[k]? = some y) (h1 : runeB x.lo = true) (h2 : runeB x.hi = true) (h : x.lo ≤ y.hi) : badAt l (k + 1) = 15 := by
  unfold badAt; rw [hx]; simp only [hy]; rw [if_neg (by rw [h1, h2]; simp)]; split
  · rfl
  · first | rfl | rw [if_pos h]
theorem badAt_0 {l : List Sp} {x : Sp} (hx : l[0]? = some x) (h1 : runeB x.lo = true) (h2 : runeB x.hi = true) (h : ¬ x.hi < x.lo) : badAt l 0 = 0 := by
  unfold badAt; rw [hx]; simp only; rw [if_neg (by rw [h1, h2]; simp), if_neg h]
theorem badAt_s {l : List Sp} {k : Nat} {x y : Sp} (hx : l[k + 1]? = some x) (hy : l[k]? = some y) (h1 : runeB x.lo = true) (h2 : runeB x.hi = true) (h : ¬ x.hi < x.lo) (h' : ¬ x.lo ≤ y.hi) : badAt l (k + 1) = 0 := by
  unfold badAt; rw [hx]; simp only [hy]; rw [if_neg (by rw [h1, h2]; simp), if_neg h, if_neg h']
/-- The rows ahead of k may stand there. -/
def Free (l : List Sp) (k : Nat) : Prop := ∀ j, j < k → badAt l j = 0
theorem Free.zero (l : List Sp) : Free l 0 := fun _ hj => absurd hj (Nat.not_lt_zero _)
theorem Free.succ {l : List Sp} {k : Nat} (h : Free l k) (h0 : badAt l k = 0) : Free l (k + 1) := fun j hj => by
  by_cases e : j = k
  · subst e; exact h0
  · exact h j (by omega)
/-- A right answer, as it is told. -/
def rowV (r : Nat × Nat) : Value := .tuple #[.int .i64 (r.1 : Nat), .int .i64 (r.2 : Nat)]
theorem rowV_at {l : List Sp} {k e : Nat} (hk : k < l.length) (hf : Free l k) (he : badAt l k = e) (h0 : e ≠ 0) : rowV (rightA l) = .tuple #[.int .i64 (k : Nat), .int .i64 (e : Nat)] := by
  rw [rightA_some hk hf (by rw [he]; exact h0), he]; rfl
theorem rowV_none {l : List Sp} (hf : Free l l.length) : rowV (rightA l) = .tuple #[.int .i64 0, .int .i64 0] := by
  rw [rightA_none hf]; rfl
set_option maxHeartbeats 2000000 in
theorem right_any (a : Option Addr) (cap : Nat) (l : List Sp) (w : World) (hlen : l.length ≤ 9223372036854775807) (h : SPS w a l) (hG : GL w) :
    Calls Tryz.prog 106 #[.slice a l.length cap] w fun e w' => e = .returned (rowV (rightA l)) ∧ Below w.heap.size w w' := by
  obtain ⟨n, hn⟩ : ∃ n, n = l.length := ⟨_, rfl⟩
  have HN : Hid (n = l.length) := hn
  rw [← hn] at hlen ⊢
  clear hn
  obtain ⟨R, hR⟩ : ∃ R, R = rowV (rightA l) := ⟨_, rfl⟩
  have HR : Hid (R = rowV (rightA l)) := hR
  rw [← hR]
  clear hR
  go_enter Tryz.func106, Tryz.ntmps106
  go_wp2
  go_loopw [8] (fun i wr => ∃ k : Nat, k ≤ n ∧ i = .int .i64 k ∧ Below w.heap.size w wr ∧ Free l k) (fun i _ => n - (intOf i).toNat)
  case atStart => exact ⟨0, Nat.zero_le _, rfl, Below.refl _ _, Free.zero l⟩
  case round =>
    obtain ⟨k, hk, rfl, hbr, hF⟩ := hrel
    by_cases hlt : k < n
    · have hkl : k < l.length := by rw [← HN.out]; exact hlt
      have hGr := hG.below hbr
      rcases h with h | ⟨b, off, rfl, hc⟩
      · subst h; simp at hkl
      obtain ⟨x, hx⟩ : ∃ x, l[k]? = some x := ⟨l[k], List.getElem?_eq_getElem hkl⟩
      obtain ⟨c0, c1⟩ := (hc k x hx).below hbr
      have HC : Hid (∀ i x, l[i]? = some x → SpAt w b (off + i * 2) x) := hc
      have HX : Hid (l[k]? = some x) := hx
      have hgt : (decide (0 < k)) = decide (0 < k) := rfl
      clear hc hx hG hgt
      go_wp2_with fail
      refine (isRune_any x.lo _ (hGr.below ((Below.refl _ wr).alloc (Nat.le_refl _) _))).mono ?_
      rintro e w1 ⟨rfl, hb1⟩
      have p1 : SpAt w1 wr.heap.size 0 x := SpAt.below ⟨by simp [go_sem], by simp [go_sem]⟩ hb1
      have hG1 := (hGr.below ((Below.refl _ wr).alloc (Nat.le_refl _) _)).below hb1
      have hB1 : Below w.heap.size w w1 := (hbr.alloc hbr.size _).trans (hb1.mono (by simp; have := hbr.size; omega))
      clear hb1 hGr
      obtain ⟨q0, q1⟩ := p1
      rw [Nat.zero_add] at q1
      have RET : ∀ (e : Nat) (W : World), Below w.heap.size w W → badAt l k = e → e ≠ 0 → Hid (R = .tuple #[.int .i64 (k : Nat), .int .i64 (e : Nat)]) := fun e W _ he h0 => by
        rw [HR.out]; exact rowV_at hkl hF he h0
      cases hr1 : runeB x.lo with
      | false =>
        have hE := RET 14 _ hB1 (badAt_14 HX.out (.inl hr1)) (by decide)
        clear hr1 q0 q1 c0 c1 RET
        go_wp2_with fail
        exact bodyPost_ret (v := .tuple #[.int .i64 (k : Nat), .int .i64 14]) (by simp [results, Tryz.results106, go_sem]) rfl ⟨by rw [hE.out]; rfl, hB1⟩
      | true =>
        go_wp2_with fail
        refine (isRune_any x.hi _ hG1).mono ?_
        rintro e w2 ⟨rfl, hb2⟩
        have hB2 := hB1.trans (hb2.mono hB1.size)
        have p2 := SpAt.below (w := w1) (b := wr.heap.size) (off := 0) (x := x) ⟨q0, q1⟩ hb2
        clear q0 q1 c0 c1 hG1
        obtain ⟨q0, q1⟩ := p2
        rw [Nat.zero_add] at q1
        cases hr2 : runeB x.hi with
        | false =>
          have hE := RET 14 _ hB1 (badAt_14 HX.out (.inr hr2)) (by decide)
          clear hr1 hr2 q0 q1 RET
          go_wp2_with fail
          exact bodyPost_ret (v := .tuple #[.int .i64 (k : Nat), .int .i64 14]) (by simp [results, Tryz.results106, go_sem]) rfl ⟨by rw [hE.out]; rfl, hB2⟩
        | true =>
          by_cases hlo : x.hi < x.lo
          · have hE := RET 15 _ hB1 (badAt_15a HX.out hr1 hr2 hlo) (by decide)
            have hd : decide (x.hi < x.lo) = true := decide_eq_true hlo
            clear hr1 hr2 RET hlo
            go_wp2_with fail
            go_quiet (fail)
            go_wp2_with fail
            exact bodyPost_ret (v := .tuple #[.int .i64 (k : Nat), .int .i64 15]) (by simp [results, Tryz.results106, go_sem]) rfl ⟨by rw [hE.out]; rfl, below_drewN hB2 nq⟩
          · have hd : decide (x.hi < x.lo) = false := decide_eq_false hlo
            cases k with
            | zero =>
              have h0 := badAt_0 HX.out hr1 hr2 hlo
              clear hr1 hr2 RET hlo
              go_wp2_with fail
              go_quiet (fail)
              go_wp2_with fail
              exact ⟨⟨1, by omega, rfl, below_drewN hB2 nq, hF.succ h0⟩, by simp only [intOf]; omega⟩
            | succ j =>
              obtain ⟨y, hy⟩ : ∃ y, l[j]? = some y := ⟨l[j], List.getElem?_eq_getElem (by omega)⟩
              obtain ⟨-, y1⟩ := ((HC.out j y hy).below hB2)
              have HY : Hid (l[j]? = some y) := hy
              clear hy
              have hdk : decide (0 < ((j + 1 : Nat) : Int)) = true := by simp
              by_cases hle : x.lo ≤ y.hi
              · have hE := RET 15 _ hB1 (badAt_15b HX.out HY.out hr1 hr2 hle) (by decide)
                have hd2 : decide (x.lo ≤ y.hi) = true := decide_eq_true hle
                clear hr1 hr2 RET hlo hle
                go_wp2_with fail
                go_quiet (fail)
                go_wp2_with fail
                exact bodyPost_ret (v := .tuple #[.int .i64 ((j : Int) + 1), .int .i64 15]) (by simp [results, Tryz.results106, go_sem]) rfl ⟨by rw [hE.out]; rfl, below_drewN hB2 nq⟩
              · have hd2 : decide (x.lo ≤ y.hi) = false := decide_eq_false hle
                have h0 := badAt_s HX.out HY.out hr1 hr2 hlo hle
                clear hr1 hr2 RET hlo hle
                go_wp2_with fail
                go_quiet (fail)
                go_wp2_with fail
                exact ⟨⟨j + 1 + 1, by omega, by go_num, below_drewN hB2 nq, hF.succ h0⟩, by simp only [intOf]; omega⟩
    · have hkn : k = n := by omega
      subst hkn
      rw [HN.out] at hF
      have hE := rowV_none hF
      rw [← HR.out] at hE
      have hE : Hid (R = .tuple #[.int .i64 0, .int .i64 0]) := hE
      go_wp2_with fail
      exact bodyPost_ret (v := .tuple #[.int .i64 0, .int .i64 0]) (by simp [results, Tryz.results106, go_sem]) rfl ⟨by rw [hE.out], hbr⟩
end Go.Proofs.YtplmmamebfpcjaaGreatDoor
end
section
/- spans.Meet: its contract. -/
namespace Go.Proofs.YtplmmamebfpcjaaGreatDoor
open Go.RowKit Go.Sort
theorem ov_nothing (x y : Sp) (v : Bool) (h : ovB x y = v) : (!spEq (comL x y) ⟨0, -1⟩) = v := by
  rw [← h]
  unfold spEq comL ovB
  by_cases h1 : min x.hi y.hi < max x.lo y.lo
  · rw [if_pos h1]
    simp
    omega
  · rw [if_neg h1, decide_eq_true (by omega : max x.lo y.lo ≤ min x.hi y.hi)]
    simp only [Bool.not_eq_true', Bool.and_eq_false_iff, beq_eq_false_iff_ne]
    omega
/-- Nothing ahead of i, or ahead of j, is of use any more. -/
def Past (a b : List Sp) (i j : Nat) : Prop := ∀ (p : Nat) (x : Sp) (q : Nat) (y : Sp), a[p]? = some x → b[q]? = some y → (p < i ∨ q < j) → ovB x y = false
theorem Past.zero (a b : List Sp) : Past a b 0 0 := fun _ _ _ _ _ _ h => by omega
theorem ovB_false {x y : Sp} : ovB x y = false ↔ min x.hi y.hi < max x.lo y.lo := by unfold ovB; simp
theorem Past.left {a b : List Sp} {i j : Nat} {x y : Sp} (h : Past a b i j) (ha : Rgt a) (hb : Rgt b) (hx : a[i]? = some x) (hy : b[j]? = some y) (ho : ovB x y = false) (hl : x.hi < y.hi) : Past a b (i + 1) j := by
  intro p u q v hu hv hpq
  by_cases e : p = i
  · subst e
    rw [hx] at hu
    cases hu
    rw [ovB_false] at ho ⊢
    have r1 := (ha.row hx).2.2
    by_cases e2 : q < j
    · have := h p x q v hx hv (.inr e2)
      rwa [ovB_false] at this
    · by_cases e3 : q = j
      · subst e3
        rw [hy] at hv
        cases hv
        exact ho
      · have := hb.rise (show j < q by omega) hy hv
        omega
  · exact h p u q v hu hv (by omega)
theorem Past.right {a b : List Sp} {i j : Nat} {x y : Sp} (h : Past a b i j) (ha : Rgt a) (hb : Rgt b) (hx : a[i]? = some x) (hy : b[j]? = some y) (ho : ovB x y = false) (hl : ¬ x.hi < y.hi) : Past a b i (j + 1) := by
  intro p u q v hu hv hpq
  by_cases e : q = j
  · subst e
    rw [hy] at hv
    cases hv
    rw [ovB_false] at ho ⊢
    have r1 := (hb.row hy).2.2
    by_cases e2 : p < i
    · have := h p u q y hu hy (.inl e2)
      rwa [ovB_false] at this
    · by_cases e3 : p = i
      · subst e3
        rw [hx] at hu
        cases hu
        exact ho
      · have := ha.rise (show i < p by omega) hx hu
        omega
  · exact h p u q v hu hv (by omega)
def meetV (r : Nat × Bool) : Value := .tuple #[.int .i64 (r.1 : Nat), .bool r.2]
theorem meetV_some {a b : List Sp} {i j : Nat} {x y : Sp} (h : Past a b i j) (hx : a[i]? = some x) (hy : b[j]? = some y) (ho : ovB x y = true) : meetV (meetA a b) = .tuple #[.int .i64 (i : Nat), .bool true] := by
  rw [meetA_some hx (fun p u hp hu => meets_false fun q v hv => h p u q v hu hv (.inl hp)) (meets_true.2 ⟨j, y, hy, ho⟩)]; rfl
theorem meetV_none {a b : List Sp} {i j : Nat} (h : Past a b i j) (he : a.length ≤ i ∨ b.length ≤ j) : meetV (meetA a b) = .tuple #[.int .i64 0, .bool false] := by
  rw [meetA_none (fun p u hu => meets_false fun q v hv => h p u q v hu hv (by
    have h1 := (List.getElem?_eq_some_iff.1 hu).1
    have h2 := (List.getElem?_eq_some_iff.1 hv).1
    omega))]; rfl
set_option maxHeartbeats 4000000 in
theorem meet_any (a b : Option Addr) (ca cb : Nat) (A B : List Sp) (w : World) (hla : A.length ≤ 9223372036854775807) (hlb : B.length ≤ 9223372036854775807) (hA : SPS w a A) (hB : SPS w b B) (hRa : Rgt A) (hRb : Rgt B) (hG : GL w) :
    Calls Tryz.prog 107 #[.slice a A.length ca, .slice b B.length cb] w fun e w' => e = .returned (meetV (meetA A B)) ∧ Below w.heap.size w w' := by
  obtain ⟨R, hR⟩ : ∃ R, R = meetV (meetA A B) := ⟨_, rfl⟩
  have HR : Hid (R = meetV (meetA A B)) := hR
  rw [← hR]
  clear hR
  obtain ⟨n, hn⟩ : ∃ n, n = A.length := ⟨_, rfl⟩
  have HN : Hid (n = A.length) := hn
  obtain ⟨m, hm⟩ : ∃ m, m = B.length := ⟨_, rfl⟩
  have HM : Hid (m = B.length) := hm
  rw [← hn] at hla ⊢
  rw [← hm] at hlb ⊢
  clear hn hm
  go_enter Tryz.func107, Tryz.ntmps107
  go_wp2
  go_loopw [6, 7] (fun i j wr => ∃ p q : Nat, p ≤ n ∧ q ≤ m ∧ i = .int .i64 p ∧ j = .int .i64 q ∧ Below w.heap.size w wr ∧ Past A B p q) (fun i j _ => (n - (intOf i).toNat) + (m - (intOf j).toNat))
  case atStart => exact ⟨0, 0, Nat.zero_le _, Nat.zero_le _, rfl, rfl, Below.refl _ _, Past.zero A B⟩
  case round =>
    obtain ⟨p, q, hp, hq, rfl, rfl, hbr, hP⟩ := hrel
    by_cases hlp : p < n
    · have dp : decide (p < n) = true := decide_eq_true hlp
      by_cases hlq : q < m
      · have hpl : p < A.length := by rw [← HN.out]; exact hlp
        have hql : q < B.length := by rw [← HM.out]; exact hlq
        rcases hA with h | ⟨ba, oa, rfl, hA⟩
        · subst h; simp at hpl
        rcases hB with h | ⟨bb, ob, rfl, hB⟩
        · subst h; simp at hql
        obtain ⟨x, hx⟩ : ∃ x, A[p]? = some x := ⟨_, List.getElem?_eq_getElem hpl⟩
        obtain ⟨y, hy⟩ : ∃ y, B[q]? = some y := ⟨_, List.getElem?_eq_getElem hql⟩
        obtain ⟨x0, x1⟩ := (hA p x hx).below hbr
        obtain ⟨y0, y1⟩ := (hB q y hy).below hbr
        have hGr := hG.below hbr
        obtain ⟨g0, g1, -⟩ := hGr.cells
        have HX : Hid (A[p]? = some x) := hx
        have HY : Hid (B[q]? = some y) := hy
        clear hA hB hx hy hpl hql hG
        have HC := fun d os => common_any x y (grow (redrawn wr d) os) (hGr.below (below_regrown wr d os))
        unfold spv at HC
        obtain ⟨v, hv⟩ : ∃ v, ovB x y = v := ⟨_, rfl⟩
        have HE := eqIn_sp (comL x y) ⟨0, -1⟩ (!v) (by rw [← ov_nothing x y v hv]; simp)
        have HF := neq_sp (comL x y) ⟨0, -1⟩ v (ov_nothing x y v hv)
        have HV : Hid (ovB x y = v) := hv
        clear hv
        obtain ⟨c, hc⟩ : ∃ c, c = comL x y := ⟨_, rfl⟩
        rw [← hc] at HC HE HF
        clear hc
        dsimp only at HE HF HC
        have k0 := cell_regrown x0
        have k1 := cell_regrown x1
        have l0 := cell_regrown y0
        have l1 := cell_regrown y1
        have e0 := cell_regrown g0
        have e1 := cell_regrown g1
        go_wp2_with fail
        refine wp_region_quiet_below (by kernel_rfl) (by kernel_rfl) ?_
        repeat (go_big_quiet_step ((go_at_call 114; exact Calls.regrown_of (HC _ _))))
        refine wpQuiet_nil ?_
        intro W5 hw'
        have hb5 : Below wr.heap.size wr W5 := by
          obtain ⟨⟨dq, osq⟩, rfl⟩ := hw'
          exact below_regrown _ _ _
        have k0 := (SpAt.below ⟨x0, x1⟩ hb5).1
        have k1 := (SpAt.below ⟨x0, x1⟩ hb5).2
        have l0 := (SpAt.below ⟨y0, y1⟩ hb5).1
        have l1 := (SpAt.below ⟨y0, y1⟩ hb5).2
        have hB5 : Below w.heap.size w W5 := hbr.trans (hb5.mono hbr.size)
        clear hw' HE HF HC e0 e1 x0 x1 y0 y1 g0 g1 hGr hb5 hbr
        cases v with
        | true =>
          have hE : Hid (R = .tuple #[.int .i64 (p : Nat), .bool true]) := by show R = _; rw [HR.out]; exact meetV_some hP HX.out HY.out HV.out
          clear k0 k1 l0 l1
          go_wp2_with fail
          exact bodyPost_ret (v := .tuple #[.int .i64 (p : Nat), .bool true]) (by simp [results, Tryz.results107, go_sem]) rfl ⟨by rw [hE.out], hB5⟩
        | false =>
          by_cases hh : x.hi < y.hi
          · have dd : decide (x.hi < y.hi) = true := decide_eq_true hh
            have hP' := hP.left hRa hRb HX.out HY.out HV.out hh
            clear hP
            go_wp2_with fail
            go_quiet (fail)
            go_wp2_with fail
            exact ⟨⟨p + 1, q, by omega, hq, by go_num, rfl, below_drewN hB5 nq, hP'⟩, by simp only [intOf]; omega⟩
          · have dd : decide (x.hi < y.hi) = false := decide_eq_false hh
            have hP' := hP.right hRa hRb HX.out HY.out HV.out hh
            clear hP
            go_wp2_with fail
            go_quiet (fail)
            go_wp2_with fail
            exact ⟨⟨p, q + 1, hp, by omega, rfl, by go_num, below_drewN hB5 nq, hP'⟩, by simp only [intOf]; omega⟩
      · have hqm : q = m := by omega
        subst hqm
        have hE : Hid (R = .tuple #[.int .i64 0, .bool false]) := by show R = _; rw [HR.out]; exact meetV_none hP (.inr (by rw [HM.out]; exact Nat.le_refl _))
        have dq : decide (q < q) = false := by simp
        go_wp2_with fail
        exact bodyPost_ret (v := .tuple #[.int .i64 0, .bool false]) (by simp [results, Tryz.results107, go_sem]) rfl ⟨by rw [hE.out], hbr⟩
    · have hpn : p = n := by omega
      subst hpn
      have hE : Hid (R = .tuple #[.int .i64 0, .bool false]) := by show R = _; rw [HR.out]; exact meetV_none hP (.inl (by rw [HN.out]; exact Nat.le_refl _))
      go_wp2_with fail
      exact bodyPost_ret (v := .tuple #[.int .i64 0, .bool false]) (by simp [results, Tryz.results107, go_sem]) rfl ⟨by rw [hE.out], hbr⟩
end Go.Proofs.YtplmmamebfpcjaaGreatDoor
end
section
/- The document's own Rune and Right: their contracts. -/
namespace Go.Proofs.YtplmmamebfpcjaaGreatDoor
open Go.RowKit Go.Sort
theorem refRune_any (r : Int) (w : World) : Calls Tryz.prog 102 #[.int .i32 r] w fun e w' => e = .returned (.bool (runeB r)) ∧ w' = w := by
  unfold runeB
  by_cases h1 : 0 ≤ r
  · have d1 : decide (0 ≤ r) = true := decide_eq_true h1
    by_cases h2 : r ≤ 1114111
    · have d2 : decide (r ≤ 1114111) = true := decide_eq_true h2
      by_cases h3 : r < 55296
      · have d3 : decide (r < 55296) = true := decide_eq_true h3
        rw [d1, d2, d3]
        go_enter Tryz.func102, Tryz.ntmps102
        go_wp2
        go_ret
        exact ⟨rfl, rfl⟩
      · have d3 : decide (r < 55296) = false := decide_eq_false h3
        by_cases h4 : 57343 < r
        · have d4 : decide (57343 < r) = true := decide_eq_true h4
          rw [d1, d2, d3, d4]
          go_enter Tryz.func102, Tryz.ntmps102
          go_wp2
          go_ret
          exact ⟨rfl, rfl⟩
        · have d4 : decide (57343 < r) = false := decide_eq_false h4
          rw [d1, d2, d3, d4]
          go_enter Tryz.func102, Tryz.ntmps102
          go_wp2
          go_ret
          exact ⟨rfl, rfl⟩
    · have d2 : decide (r ≤ 1114111) = false := decide_eq_false h2
      rw [d1, d2]
      go_enter Tryz.func102, Tryz.ntmps102
      go_wp2
      go_ret
      exact ⟨rfl, rfl⟩
  · have d1 : decide (0 ≤ r) = false := decide_eq_false h1
    rw [d1]
    go_enter Tryz.func102, Tryz.ntmps102
    go_wp2
    go_ret
    exact ⟨rfl, rfl⟩
set_option maxHeartbeats 2000000 in
theorem refRight_any (a : Option Addr) (cap : Nat) (l : List Sp) (w : World) (hlen : l.length ≤ 9223372036854775807) (h : SPS w a l) :
    Calls Tryz.prog 79 #[.slice a l.length cap] w fun e w' => e = .returned (rowV (rightA l)) ∧ Below w.heap.size w w' := by
  obtain ⟨n, hn⟩ : ∃ n, n = l.length := ⟨_, rfl⟩
  have HN : Hid (n = l.length) := hn
  rw [← hn] at hlen ⊢
  clear hn
  obtain ⟨R, hR⟩ : ∃ R, R = rowV (rightA l) := ⟨_, rfl⟩
  have HR : Hid (R = rowV (rightA l)) := hR
  rw [← hR]
  clear hR
  go_enter Tryz.func79, Tryz.ntmps79
  go_wp2
  go_loopw [4] (fun i wr => ∃ k : Nat, k ≤ n ∧ i = .int .i64 k ∧ Below w.heap.size w wr ∧ Free l k) (fun i _ => n - (intOf i).toNat)
  case atStart => exact ⟨0, Nat.zero_le _, rfl, Below.refl _ _, Free.zero l⟩
  case round =>
    obtain ⟨k, hk, rfl, hbr, hF⟩ := hrel
    by_cases hlt : k < n
    · have hkl : k < l.length := by rw [← HN.out]; exact hlt
      rcases h with h | ⟨b, off, rfl, hc⟩
      · subst h; simp at hkl
      obtain ⟨x, hx⟩ : ∃ x, l[k]? = some x := ⟨l[k], List.getElem?_eq_getElem hkl⟩
      obtain ⟨c0, c1⟩ := (hc k x hx).below hbr
      have HC : Hid (∀ i x, l[i]? = some x → SpAt w b (off + i * 2) x) := hc
      have HX : Hid (l[k]? = some x) := hx
      clear hc hx
      go_wp2_with fail
      refine (refRune_any x.lo _).mono ?_
      rintro e w1 ⟨rfl, he⟩
      obtain rfl := he.symm
      have RET : ∀ (e : Nat), badAt l k = e → e ≠ 0 → Hid (R = .tuple #[.int .i64 (k : Nat), .int .i64 (e : Nat)]) := fun e he h0 => by
        rw [HR.out]; exact rowV_at hkl hF he h0
      cases hr1 : runeB x.lo with
      | false =>
        have hE := RET 14 (badAt_14 HX.out (.inl hr1)) (by decide)
        clear hr1 c0 c1 RET
        go_wp2_with fail
        exact bodyPost_ret (v := .tuple #[.int .i64 (k : Nat), .int .i64 14]) (by simp [results, Tryz.results79, go_sem]) rfl ⟨by rw [hE.out]; rfl, hbr⟩
      | true =>
        go_wp2_with fail
        refine (refRune_any x.hi _).mono ?_
        rintro e w2 ⟨rfl, he⟩
        obtain rfl := he.symm
        cases hr2 : runeB x.hi with
        | false =>
          have hE := RET 14 (badAt_14 HX.out (.inr hr2)) (by decide)
          clear hr1 hr2 c0 c1 RET
          go_wp2_with fail
          exact bodyPost_ret (v := .tuple #[.int .i64 (k : Nat), .int .i64 14]) (by simp [results, Tryz.results79, go_sem]) rfl ⟨by rw [hE.out]; rfl, hbr⟩
        | true =>
          by_cases hlo : x.hi < x.lo
          · have hE := RET 15 (badAt_15a HX.out hr1 hr2 hlo) (by decide)
            have hd : decide (x.hi < x.lo) = true := decide_eq_true hlo
            clear hr1 hr2 RET hlo
            go_wp2_with fail
            go_quiet (fail)
            go_wp2_with fail
            exact bodyPost_ret (v := .tuple #[.int .i64 (k : Nat), .int .i64 15]) (by simp [results, Tryz.results79, go_sem]) rfl ⟨by rw [hE.out]; rfl, below_drewN hbr nq⟩
          · have hd : decide (x.hi < x.lo) = false := decide_eq_false hlo
            cases k with
            | zero =>
              have h0 := badAt_0 HX.out hr1 hr2 hlo
              simp only [Nat.zero_mul, Nat.add_zero] at c0 c1
              clear hr1 hr2 RET hlo
              go_wp2_with fail
              go_quiet (fail)
              go_wp2_with fail
              exact ⟨⟨1, by omega, rfl, below_drewN hbr nq, hF.succ h0⟩, by simp only [intOf]; omega⟩
            | succ j =>
              obtain ⟨y, hy⟩ : ∃ y, l[j]? = some y := ⟨l[j], List.getElem?_eq_getElem (by omega)⟩
              obtain ⟨-, y1⟩ := ((HC.out j y hy).below hbr)
              have HY : Hid (l[j]? = some y) := hy
              clear hy
              have hdk : decide (0 < ((j + 1 : Nat) : Int)) = true := by simp
              by_cases hle : x.lo ≤ y.hi
              · have hE := RET 15 (badAt_15b HX.out HY.out hr1 hr2 hle) (by decide)
                have hd2 : decide (x.lo ≤ y.hi) = true := decide_eq_true hle
                clear hr1 hr2 RET hlo hle
                go_wp2_with fail
                go_quiet (fail)
                go_wp2_with fail
                exact bodyPost_ret (v := .tuple #[.int .i64 ((j : Int) + 1), .int .i64 15]) (by simp [results, Tryz.results79, go_sem]) rfl ⟨by rw [hE.out]; rfl, below_drewN hbr nq⟩
              · have hd2 : decide (x.lo ≤ y.hi) = false := decide_eq_false hle
                have h0 := badAt_s HX.out HY.out hr1 hr2 hlo hle
                clear hr1 hr2 RET hlo hle
                go_wp2_with fail
                go_quiet (fail)
                go_wp2_with fail
                exact ⟨⟨j + 1 + 1, by omega, by go_num, below_drewN hbr nq, hF.succ h0⟩, by simp only [intOf]; omega⟩
    · have hkn : k = n := by omega
      subst hkn
      rw [HN.out] at hF
      have hE := rowV_none hF
      rw [← HR.out] at hE
      have hE : Hid (R = .tuple #[.int .i64 0, .int .i64 0]) := hE
      go_wp2_with fail
      exact bodyPost_ret (v := .tuple #[.int .i64 0, .int .i64 0]) (by simp [results, Tryz.results79, go_sem]) rfl ⟨by rw [hE.out], hbr⟩
end Go.Proofs.YtplmmamebfpcjaaGreatDoor
end
section
/- Lists of spans as cells. -/
namespace Go.Proofs.YtplmmamebfpcjaaGreatDoor
open Go.RowKit Go.Sort Go.Joins
/-- A list's cells. -/
def cellsS (l : List Sp) : List Value := l.flatMap fun x => [.int .i32 x.lo, .int .i32 x.hi]
theorem cellsS_length (l : List Sp) : (cellsS l).length = l.length * 2 := by
  induction l with
  | nil => rfl
  | cons x l ih => simp only [cellsS, List.flatMap_cons, List.length_append, List.length_cons] at ih ⊢; rw [ih]; simp; omega
theorem cellsS_get (l : List Sp) (i : Nat) (x : Sp) (h : l[i]? = some x) : (cellsS l)[i * 2]? = some (.int .i32 x.lo) ∧ (cellsS l)[i * 2 + 1]? = some (.int .i32 x.hi) := by
  induction l generalizing i with
  | nil => simp at h
  | cons y l ih =>
    cases i with
    | zero =>
      have : y = x := by simpa using h
      subst this
      exact ⟨rfl, rfl⟩
    | succ i =>
      have := ih i (by simpa using h)
      have e : cellsS (y :: l) = .int .i32 y.lo :: .int .i32 y.hi :: cellsS l := rfl
      rw [e, show (i + 1) * 2 = i * 2 + 1 + 1 by omega, show i * 2 + 1 + 1 + 1 = i * 2 + 1 + 1 + 1 from rfl]
      simpa using this
theorem SPS.of_block {w : World} {g : Nat} {l r : List Sp} {t : TypeId} {fr : Nat × Nat} (h : w.heap[g]? = some (.cells (cellsS (l ++ r)).toArray t fr)) : SPS w (some ⟨g, 0, none⟩) l := by
  refine .inr ⟨g, 0, rfl, fun i x hx => ?_⟩
  have hx' : (l ++ r)[i]? = some x := by
    rw [List.getElem?_append_left (List.getElem?_eq_some_iff.1 hx).1]; exact hx
  obtain ⟨h0, h1⟩ := cellsS_get _ _ _ hx'
  refine ⟨?_, ?_⟩ <;> rw [cell_of_block h, Nat.zero_add] <;> simpa
theorem SPS.new (w : World) (l : List Sp) (t : TypeId) : SPS (w.alloc (.cells (cellsS l).toArray t)) (some ⟨w.heap.size, 0, none⟩) l :=
  SPS.of_block (r := []) (by rw [List.append_nil]; exact heap_alloc_new _ _)
end Go.Proofs.YtplmmamebfpcjaaGreatDoor
end
