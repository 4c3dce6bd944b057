import Derived.Test.YtonbfcpbgkpbaaaDoorJ10
import Derived.Test.YtonbfcpbgkpbaaaDoorJ0
import Derived.Test.YtonbfcpbgkpbaaaDoorJ1
import Derived.Test.YtonbfcpbgkpbaaaDoorJ2
section
/- recipe.runeToken: its contract. -/
namespace Go.Proofs.YtonbfcpbgkpbaaaDoor
open Go.RowKit Go.Sort Go.Joins
set_option linter.unusedVariables false
set_option linter.unusedSimpArgs false
set_option maxRecDepth 100000
def capC (n : Nat) : UInt8 := UInt8.ofNat (if n < 10 then 48 + n else 55 + n)
/-- Capital digits put ahead, four at the least. -/
def rdig : Nat → Nat → List UInt8 → List UInt8
  | 0, _, acc => acc
  | f + 1, n, acc => if 0 < n ∨ acc.length < 4 then rdig f (n / 16) (capC (n % 16) :: acc) else acc
/-- The token of a rune. -/
def runeTok (n : Nat) : List UInt8 := 85 :: 43 :: rdig 8 n []
theorem rdig_end (f n : Nat) (acc : List UInt8) (h : ¬ (0 < n ∨ acc.length < 4)) : rdig f n acc = acc := by
  cases f with
  | zero => rfl
  | succ f => rw [rdig, if_neg h]
theorem rdig_step (f n : Nat) (acc : List UInt8) (h : 0 < n ∨ acc.length < 4) : rdig (f + 1) n acc = rdig f (n / 16) (capC (n % 16) :: acc) := by rw [rdig, if_pos h]
theorem and15z (m : Nat) (h : m < 4294967296) : bits BinOp.and IntKind.i64 (m : Int) 15 = ((m % 16 : Nat) : Int) := by
  have hx : m &&& 15 = m % 16 := Nat.and_two_pow_sub_one_eq_mod m 4
  have h1 : (BitVec.ofInt 64 (m : Int)).toNat = m := by
    rw [BitVec.ofInt_natCast, BitVec.toNat_ofNat]; exact Nat.mod_eq_of_lt (by omega)
  show IntKind.i64.wrap ((BitVec.ofInt 64 (m : Int) &&& BitVec.ofInt 64 (15 : Int)).toNat : Int) = _
  rw [BitVec.toNat_and, h1, show (BitVec.ofInt 64 (15 : Int)).toNat = 15 by decide, hx]
  rw [IntKind.wrap_i64]
  omega
theorem cut_cap (q : Nat) (h : q < 16) (w : World) : (Instr.slice 9 (.string ⟨#[48, 49, 50, 51, 52, 53, 54, 55, 56, 57, 65, 66, 67, 68, 69, 70]⟩) (some (.int .i64 (q : Nat))) (some (.int .i64 ((q : Int) + 1))) none).run Tryd.prog w = .ok (.string ⟨#[capC q]⟩) w := by
  have : q = 0 ∨ q = 1 ∨ q = 2 ∨ q = 3 ∨ q = 4 ∨ q = 5 ∨ q = 6 ∨ q = 7 ∨ q = 8 ∨ q = 9 ∨ q = 10 ∨ q = 11 ∨ q = 12 ∨ q = 13 ∨ q = 14 ∨ q = 15 := by omega
  rcases this with rfl | rfl | rfl | rfl | rfl | rfl | rfl | rfl | rfl | rfl | rfl | rfl | rfl | rfl | rfl | rfl <;> (show _ = _; kernel_rfl)
theorem text_add (a b : List UInt8) : textOf a ++ textOf b = textOf (a ++ b) := by
  apply ByteArray.ext
  simp [textOf]
set_option maxHeartbeats 2000000 in
theorem runeToken_any (n : Nat) (hn : n ≤ 1114111) (w : World) : Calls Tryd.prog 34 #[.int .i32 (n : Nat)] w fun e w' => e = .returned (.string (textOf (runeTok n))) ∧ w' = w := by
  go_enter Tryd.func34, Tryd.ntmps34
  go_wp2_with fail
  go_loopw [3, 4] (fun s i wr => ∃ (f m : Nat) (acc : List UInt8), s = .string (textOf acc) ∧ i = .int .i64 (m : Nat) ∧ m ≤ n ∧ acc.length ≤ 8 ∧ acc.length + f = 8 ∧ m < 16 ^ f ∧ rdig f m acc = rdig 8 n [] ∧ wr = w) (fun s i _ => 16 - (match s with | .string b => b.size | _ => 0))
  case atStart => exact ⟨8, n, [], rfl, rfl, Nat.le_refl _, by simp, rfl, by omega, rfl, rfl⟩
  case round =>
    obtain ⟨f, m, acc, rfl, rfl, hm, hl, hfl, hp, hd, hw⟩ := hrel
    rw [hw]
    clear hw wr
    have hsz : (textOf acc).size = acc.length := by simp [textOf, ByteArray.size]
    by_cases hc : 0 < m ∨ acc.length < 4
    · obtain ⟨f, rfl⟩ : ∃ g, f = g + 1 := by
        cases f with
        | zero => exfalso; simp at hp; omega
        | succ f => exact ⟨f, rfl⟩
      have HD := Lib.hid ((rdig_step f m acc hc).symm.trans hd)
      have HPW := Lib.hid (show m / 16 < 16 ^ f by rw [Nat.pow_succ] at hp; omega)
      have ha := and15z m (by omega)
      have hcut := fun wx => cut_cap (m % 16) (Nat.mod_lt _ (by decide)) wx
      have hq : m % 16 < 16 := Nat.mod_lt _ (by decide)
      obtain ⟨q, hqq⟩ : ∃ q, q = m % 16 := ⟨_, rfl⟩
      have HTX := Lib.hid (show (⟨#[capC (m % 16)]⟩ : ByteArray) ++ textOf acc = textOf (capC (m % 16) :: acc) from text_add [capC (m % 16)] acc)
      rw [← hqq] at ha hcut hq HTX HD
      have HSZ := Lib.hid hsz
      have hz4 : ((acc.length : Nat) : Int) = ((textOf acc).size : Nat) := by rw [hsz]
      obtain ⟨x, hx⟩ : ∃ x, x = textOf acc := ⟨_, rfl⟩
      rw [← hx] at hz4 HTX HSZ ⊢
      clear hd hp hsz hx hqq
      have d4 : decide ((x.size : Int) < 4) = decide (acc.length < 4) := by rw [← hz4, Bool.eq_iff_iff]; simp; omega
      by_cases h0 : 0 < m
      · have d0 : decide ((0 : Int) < (m : Int)) = true := decide_eq_true (by omega)
        clear d4
        go_wp2_with fail
        exact ⟨⟨f, m / 16, capC q :: acc, by rw [HTX.out], by go_num, by omega, by simp only [List.length_cons]; omega, by simp only [List.length_cons]; omega, HPW.out, HD.out, trivial⟩, by
          show 16 - ByteArray.size _ < 16 - ByteArray.size _
          rw [ByteArray.size_append, HSZ.out]
          show 16 - (1 + _) < _
          omega⟩
      · have d0 : decide ((0 : Int) < (m : Int)) = false := decide_eq_false (by omega)
        have d5 : decide ((x.size : Int) < 4) = true := by rw [d4]; exact decide_eq_true (by omega)
        clear d4
        go_wp2_with fail
        exact ⟨⟨f, m / 16, capC q :: acc, by rw [HTX.out], by go_num, by omega, by simp only [List.length_cons]; omega, by simp only [List.length_cons]; omega, HPW.out, HD.out, trivial⟩, by
          show 16 - ByteArray.size _ < 16 - ByteArray.size _
          rw [ByteArray.size_append, HSZ.out]
          show 16 - (1 + _) < _
          omega⟩
    · have HD := Lib.hid ((rdig_end f m acc hc).symm.trans hd)
      have d0 : decide ((0 : Int) < (m : Int)) = false := decide_eq_false (by omega)
      have HTX := Lib.hid (show (⟨#[85, 43]⟩ : ByteArray) ++ textOf acc = textOf (85 :: 43 :: acc) from text_add [85, 43] acc)
      have d5 : decide (((textOf acc).size : Int) < 4) = false := decide_eq_false (by rw [hsz]; omega)
      obtain ⟨x, hx⟩ : ∃ x, x = textOf acc := ⟨_, rfl⟩
      have hx8 : x.size ≤ 8 := by rw [hx, hsz]; exact hl
      rw [← hx] at d5 HTX ⊢
      clear hd hp hsz hx
      go_wp2_with fail
      go_ret
      exact ⟨by unfold runeTok; rw [← HD.out, ← HTX.out]; rfl, rfl⟩
end Go.Proofs.YtonbfcpbgkpbaaaDoor
end
section
/- Recipes: what is printed is scanned as it was meant, token by token: the mathematics. -/
namespace Go.Proofs.YtonbfcpbgkpbaaaDoor
set_option linter.unusedVariables false
set_option linter.unusedSimpArgs false
/-- A printed token: of a kind, with a text, wherever a blank stands behind it. -/
structure TkOk (tok : List UInt8) (k : Nat) (s : List UInt8) : Prop where
  tok_ : ∀ c r, blnkB c = true → tokL (tok ++ c :: r) = (k, tok.length, s)
  kind : k ≤ 5
  head : ∃ c l, tok = c :: l ∧ blnkB c = false ∧ c.toNat ≠ 35
theorem blnk_vals {c : UInt8} (h : blnkB c = true) : c.toNat = 9 ∨ c.toNat = 10 ∨ c.toNat = 13 ∨ c.toNat = 32 := by
  simp only [blnkB, Bool.or_eq_true, beq_iff_eq] at h
  omega
theorem blnk_small {c : UInt8} (h : blnkB c = true) : smallB c = false ∧ digitB c = false ∧ capB c = false ∧ onB c = false := by
  have h2 := blnk_vals h
  refine ⟨?_, ?_, ?_, ?_⟩
  · simp [smallB]; omega
  · simp [digitB]; omega
  · simp [capB, digitB]; omega
  · simp [onB, smallB, digitB]; omega
theorem tokL_cons (c : UInt8) (l' : List UInt8) : tokL (c :: l') =
    if c.toNat = 34 then ((wordW 0 0 l').1, (wordW 0 0 l').2.1 + 1, wordT (wordW 0 0 l'))
    else if smallB c = true then bounded 1 ((c :: l').takeWhile smallB).length (c :: l')
    else if c.toNat = 48 then bounded 2 1 (c :: l')
    else if digitB c = true then bounded 2 (tenDigits 10 (c :: l')) (c :: l')
    else if (c :: l').take 2 = [85, 43] then bounded (if runeDB (((c :: l').drop 2).takeWhile capB) = true then 3 else 6) (2 + (((c :: l').drop 2).takeWhile capB).length) (c :: l')
    else if (c :: l').take 2 = [46, 46] then (5, 2, (c :: l').take 2)
    else if c.toNat = 123 ∨ c.toNat = 125 ∨ c.toNat = 43 ∨ c.toNat = 61 then (5, 1, (c :: l').take 1)
    else (6, 0, []) := rfl
theorem take_all {p : UInt8 → Bool} {l : List UInt8} {c : UInt8} {r : List UInt8} (hl : ∀ x ∈ l, p x = true) (hc : p c = false) : (l ++ c :: r).takeWhile p = l := by
  induction l with
  | nil => simp [hc]
  | cons x l ih =>
    rw [List.cons_append, List.takeWhile_cons, hl x (by simp)]
    simp only [if_true]
    rw [ih (fun y hy => hl y (by simp [hy]))]
theorem bounded_ok {k n : Nat} {tok : List UInt8} {c : UInt8} {r : List UInt8} (hn : n = tok.length) (hc : blnkB c = true) : bounded k n (tok ++ c :: r) = (k, tok.length, tok) := by
  subst hn
  unfold bounded
  rw [List.drop_left, List.take_left]
  show (if onB c = true then 6 else k, _) = _
  rw [(blnk_small hc).2.2.2]
  simp
/-- A name. -/
theorem tk_name {nm : List UInt8} (h : ∀ x ∈ nm, smallB x = true) (h0 : nm ≠ []) : TkOk nm 1 nm := by
  cases nm with
  | nil => exact absurd rfl h0
  | cons a l =>
    have ha := h a (by simp)
    have hv : 97 ≤ a.toNat ∧ a.toNat ≤ 122 := by simpa [smallB] using ha
    refine ⟨fun c r hc => ?_, by omega, a, l, rfl, by simp [blnkB]; omega, by omega⟩
    show (if a.toNat = 34 then _ else if smallB a = true then bounded 1 (((a :: l) ++ c :: r).takeWhile smallB).length ((a :: l) ++ c :: r) else _) = _
    rw [if_neg (by omega), if_pos ha, take_all h (blnk_small hc).1]
    exact bounded_ok rfl hc
/-- A sign. -/
theorem tk_sign {b : UInt8} (h : b.toNat = 123 ∨ b.toNat = 125 ∨ b.toNat = 43 ∨ b.toNat = 61) : TkOk [b] 5 [b] := by
  refine ⟨fun c r hc => ?_, by omega, b, [], rfl, by simp [blnkB]; omega, by omega⟩
  have h1 : smallB b = false := by simp [smallB]; omega
  have h2 : digitB b = false := by simp [digitB]; omega
  have h3 : ¬ ([b] ++ c :: r).take 2 = [85, 43] := by
    intro e
    have : b = 85 := by simpa using (List.cons.inj e).1
    subst this
    revert h
    decide
  have h4 : ¬ ([b] ++ c :: r).take 2 = [46, 46] := by
    intro e
    have : b = 46 := by simpa using (List.cons.inj e).1
    subst this
    revert h
    decide
  show (if b.toNat = 34 then _ else if smallB b = true then _ else if b.toNat = 48 then _ else if digitB b = true then _ else if ([b] ++ c :: r).take 2 = [85, 43] then _ else if ([b] ++ c :: r).take 2 = [46, 46] then _ else if b.toNat = 123 ∨ b.toNat = 125 ∨ b.toNat = 43 ∨ b.toNat = 61 then _ else _) = _
  rw [if_neg (by omega), h1, if_neg (by simp), if_neg (by omega), h2, if_neg (by simp), if_neg h3, if_neg h4, if_pos h]
  rfl
theorem tk_to : TkOk sTo 5 sTo := by
  refine ⟨fun c r hc => ?_, by omega, 46, [46], rfl, by decide, by decide⟩
  rfl
/-- A word. -/
theorem hexC_nat {n : Nat} (h : n < 16) : (hexC n).toNat = if n < 10 then 48 + n else 87 + n := by
  unfold hexC
  rw [UInt8.toNat_ofNat']
  split <;> omega
theorem hexC_low {n : Nat} (h : n < 16) : lowB (hexC n) = true ∧ digV (hexC n) = n := by
  have := hexC_nat h
  by_cases hn : n < 10
  · rw [if_pos hn] at this
    constructor
    · simp [lowB, digitB]; omega
    · unfold digV; rw [if_pos (by omega)]; omega
  · rw [if_neg hn] at this
    constructor
    · simp [lowB, digitB]; omega
    · unfold digV; rw [if_neg (by omega), if_neg (by omega)]; omega
theorem word_byte (h : UInt8) (x : UInt8) (l : List UInt8) : ∃ h', wordW 0 h (quoteB x ++ l) = ((wordW 0 h' l).1, (wordW 0 h' l).2.1 + (quoteB x).length, x :: (wordW 0 h' l).2.2) := by
  unfold quoteB
  by_cases h1 : x.toNat = 34 ∨ x.toNat = 92
  · rw [if_pos h1]
    refine ⟨h, ?_⟩
    show wordW 0 h (92 :: x :: l) = _
    rw [wordW, if_neg (by decide), if_pos (by decide), wordW, if_pos h1]
    rfl
  · rw [if_neg h1]
    by_cases h2 : 32 ≤ x.toNat ∧ x.toNat ≤ 126
    · rw [if_pos h2]
      refine ⟨h, ?_⟩
      show wordW 0 h (x :: l) = _
      rw [wordW, if_neg (by omega), if_neg (by omega), if_pos (by simp [shownB]; exact h2)]
      rfl
    · rw [if_neg h2]
      have hx := x.toNat_lt
      have a1 := hexC_low (n := x.toNat / 16) (by omega)
      have a2 := hexC_low (n := x.toNat % 16) (by omega)
      have a3 := hexC_nat (n := x.toNat / 16) (by omega)
      have hv : byteV (hexC (x.toNat / 16)) (hexC (x.toNat % 16)) = x := by
        unfold byteV
        rw [a1.2, a2.2, show x.toNat / 16 * 16 + x.toNat % 16 = x.toNat by omega]
        exact UInt8.ofNat_toNat
      refine ⟨hexC (x.toNat / 16), ?_⟩
      show wordW 0 h (92 :: hexC (x.toNat / 16) :: hexC (x.toNat % 16) :: l) = _
      rw [wordW, if_neg (by decide), if_pos (by decide), wordW, if_neg (by split at a3 <;> omega), if_pos a1.1, wordW, if_pos ⟨a2.1, by rw [hv]; simp [shownB]; omega⟩, hv]
      rfl
theorem word_all (l : List UInt8) : ∀ (h : UInt8) (r : List UInt8), wordW 0 h (l.flatMap quoteB ++ 34 :: r) = (4, (l.flatMap quoteB).length + 1, l) := by
  induction l with
  | nil => intro h r; rfl
  | cons x l ih =>
    intro h r
    rw [List.flatMap_cons, List.append_assoc]
    obtain ⟨h', e⟩ := word_byte h x (l.flatMap quoteB ++ 34 :: r)
    rw [e, ih h' r, List.length_append]
    simp only [Prod.mk.injEq, true_and, and_true]
    omega
theorem tk_word (w : List UInt8) : TkOk (quoteF w) 4 w := by
  refine ⟨fun c r hc => ?_, by omega, 34, _, rfl, by decide, by decide⟩
  show tokL (34 :: (w.flatMap quoteB ++ [34] ++ c :: r)) = _
  rw [List.append_assoc, List.singleton_append]
  show ((wordW 0 0 (w.flatMap quoteB ++ 34 :: c :: r)).1, (wordW 0 0 (w.flatMap quoteB ++ 34 :: c :: r)).2.1 + 1, wordT (wordW 0 0 (w.flatMap quoteB ++ 34 :: c :: r))) = _
  rw [word_all w 0 (c :: r)]
  unfold wordT quoteF
  simp
/-- A rune. -/
theorem capC_nat {n : Nat} (h : n < 16) : (capC n).toNat = if n < 10 then 48 + n else 55 + n := by
  unfold capC
  rw [UInt8.toNat_ofNat']
  split <;> omega
theorem capC_cap {n : Nat} (h : n < 16) : capB (capC n) = true ∧ digV (capC n) = n := by
  have := capC_nat h
  by_cases hn : n < 10
  · rw [if_pos hn] at this
    constructor
    · simp [capB, digitB]; omega
    · unfold digV; rw [if_pos (by omega)]; omega
  · rw [if_neg hn] at this
    constructor
    · simp [capB, digitB]; omega
    · unfold digV; rw [if_neg (by omega), if_pos (by omega)]; omega
theorem val_acc (l : List UInt8) : ∀ n, valF 16 n l = n * 16 ^ l.length + valF 16 0 l := by
  induction l with
  | nil => intro n; simp [valF]
  | cons c l ih =>
    intro n
    rw [valF, ih, valF, ih (0 * 16 + digV c), List.length_cons, Nat.pow_succ]
    rw [Nat.add_mul, Nat.zero_mul, Nat.zero_add, Nat.mul_assoc, Nat.mul_comm 16 (16 ^ l.length)]
    omega
/-- The digits of a number, laid ahead of others. -/
theorem rdig_spec : ∀ (f n : Nat) (acc : List UInt8), (∀ x ∈ acc, capB x = true) → (f ≥ 1 → n < 16 ^ f) → (f = 0 → n = 0) →
    (∀ x ∈ rdig f n acc, capB x = true) ∧ valF 16 0 (rdig f n acc) = n * 16 ^ acc.length + valF 16 0 acc
  | 0, n, acc, ha, _, h0 => by
    have : n = 0 := h0 rfl
    subst this
    exact ⟨ha, by simp [rdig]⟩
  | f + 1, n, acc, ha, hn, _ => by
    by_cases h : 0 < n ∨ acc.length < 4
    · rw [rdig_step f n acc h]
      have hc := capC_cap (n := n % 16) (by omega)
      have hlt := hn (by omega)
      rw [Nat.pow_succ] at hlt
      have ih := rdig_spec f (n / 16) (capC (n % 16) :: acc) (fun x hx => by
        rcases List.mem_cons.1 hx with rfl | hx
        · exact hc.1
        · exact ha x hx) (fun _ => by omega) (fun h0 => by subst h0; simp at hlt; omega)
      refine ⟨ih.1, ?_⟩
      rw [ih.2, valF, val_acc acc, hc.2, List.length_cons, Nat.pow_succ, Nat.zero_mul, Nat.zero_add, ← Nat.add_assoc]
      congr 1
      rw [Nat.mul_comm (16 ^ acc.length) 16, ← Nat.mul_assoc, ← Nat.add_mul]
      congr 1
      omega
    · rw [rdig_end (f + 1) n acc h]
      have : n = 0 := by omega
      subst this
      exact ⟨ha, by simp⟩
theorem rune_form {n : Nat} (h : n ≤ 1114111) : ∃ l, rdig 8 n [] = l ∧ 4 ≤ l.length ∧ l.length ≤ 6 ∧ (l.length ≤ 4 ∨ (l.headD 0).toNat ≠ 48) := by
  have s4 : rdig 8 n [] = rdig 4 (n / 16 / 16 / 16 / 16) [capC (n / 16 / 16 / 16 % 16), capC (n / 16 / 16 % 16), capC (n / 16 % 16), capC (n % 16)] := by
    rw [rdig_step 7 n [] (.inr (by simp)), rdig_step 6 _ _ (.inr (by simp)), rdig_step 5 _ _ (.inr (by simp)), rdig_step 4 _ _ (.inr (by simp))]
  refine ⟨_, rfl, ?_⟩
  rw [s4]
  obtain ⟨q, hq⟩ : ∃ q, q = n / 16 / 16 / 16 / 16 := ⟨_, rfl⟩
  have hq16 : q ≤ 16 := by omega
  rw [← hq]
  by_cases h0 : q = 0
  · rw [rdig_end 4 q _ (by simp; omega)]
    simp
  · rw [rdig_step 3 q _ (.inl (by omega))]
    by_cases h1 : q / 16 = 0
    · rw [h1, rdig_end 3 0 _ (by simp)]
      have := capC_nat (n := q % 16) (by omega)
      refine ⟨by simp, by simp, .inr ?_⟩
      show (capC (q % 16)).toNat ≠ 48
      rw [this]
      split <;> omega
    · rw [rdig_step 2 _ _ (.inl (by omega))]
      have : q / 16 / 16 = 0 := by omega
      rw [this, rdig_end 2 0 _ (by simp)]
      have := capC_nat (n := q / 16 % 16) (by omega)
      refine ⟨by simp, by simp, .inr ?_⟩
      show (capC (q / 16 % 16)).toNat ≠ 48
      rw [this]
      split <;> omega
theorem rune_val {n : Nat} (h : n ≤ 1114111) : (∀ x ∈ rdig 8 n [], capB x = true) ∧ valF 16 0 (rdig 8 n []) = n := by
  have := rdig_spec 8 n [] (by simp) (fun _ => by omega) (fun h => by omega)
  refine ⟨this.1, ?_⟩
  rw [this.2]
  simp [valF]
theorem runeV_tok {n : Nat} (h : n ≤ 1114111) : runeV (runeTok n) = n := (rune_val h).2
theorem tk_rune {n : Nat} (h : scalarB n = true) : TkOk (runeTok n) 3 (runeTok n) := by
  have hn : n ≤ 1114111 := by
    simp only [scalarB, Bool.or_eq_true, Bool.and_eq_true, decide_eq_true_eq] at h
    omega
  obtain ⟨l, hl, h1, h2, h3⟩ := rune_form hn
  obtain ⟨hv1, hv2⟩ := rune_val hn
  rw [hl] at hv1 hv2
  refine ⟨fun c r hc => ?_, by omega, 85, _, rfl, by decide, by decide⟩
  have e : runeTok n = 85 :: 43 :: l := by unfold runeTok; rw [hl]
  rw [e]
  have ht : ((85 :: 43 :: l ++ c :: r).drop 2).takeWhile capB = l := take_all hv1 (blnk_small hc).2.2.1
  have hd : runeDB l = true := by
    simp only [runeDB, Bool.and_eq_true, Bool.or_eq_true, decide_eq_true_eq, bne_iff_ne, ne_eq]
    exact ⟨⟨⟨h1, h2⟩, h3⟩, by rw [hv2]; exact h⟩
  rw [show (85 :: 43 :: l ++ c :: r : List UInt8) = 85 :: (43 :: l ++ c :: r) from rfl] at ht ⊢
  rw [tokL_cons]
  rw [ht, hd, if_neg (by decide), if_neg (by decide), if_neg (by decide), if_neg (by decide), if_pos rfl, if_pos (show (85 :: (43 :: l ++ c :: r) : List UInt8).take 2 = [85, 43] from rfl)]
  exact bounded_ok (tok := 85 :: 43 :: l) (by simp; omega) hc
/-- The decimal digits of a number that a merge of a hundred may name. -/
def dec3 (v : Nat) : List UInt8 := [UInt8.ofNat (48 + v / 100), UInt8.ofNat (48 + v / 10 % 10), UInt8.ofNat (48 + v % 10)]
theorem dec_digit {d : Nat} (h : d < 10) : (UInt8.ofNat (48 + d)).toNat = 48 + d ∧ digitB (UInt8.ofNat (48 + d)) = true ∧ digV (UInt8.ofNat (48 + d)) = d := by
  have e : (UInt8.ofNat (48 + d)).toNat = 48 + d := by rw [UInt8.toNat_ofNat']; omega
  refine ⟨e, ?_, ?_⟩
  · simp [digitB, e]; omega
  · unfold digV; rw [e, if_pos (by omega)]; omega
theorem dec_val {v : Nat} (h : v < 1000) : valF 10 0 (dec3 v) = v := by
  have a := (dec_digit (d := v / 100) (by omega)).2.2
  have b := (dec_digit (d := v / 10 % 10) (by omega)).2.2
  have c := (dec_digit (d := v % 10) (by omega)).2.2
  unfold dec3
  rw [valF, valF, valF, valF, a, b, c]
  omega
theorem tk_dec {v : Nat} (h1 : 100 ≤ v) (h : v < 1000) : TkOk (dec3 v) 2 (dec3 v) := by
  obtain ⟨a1, a2, _⟩ := dec_digit (d := v / 100) (by omega)
  obtain ⟨b1, b2, _⟩ := dec_digit (d := v / 10 % 10) (by omega)
  obtain ⟨c1, c2, _⟩ := dec_digit (d := v % 10) (by omega)
  refine ⟨fun c r hc => ?_, by omega, _, _, rfl, by simp [blnkB]; omega, by omega⟩
  have hs : smallB (UInt8.ofNat (48 + v / 100)) = false := by simp [smallB, a1]; omega
  have ht : tenDigits 10 (dec3 v ++ c :: r) = 3 := by
    show tenDigits 10 (UInt8.ofNat (48 + v / 100) :: UInt8.ofNat (48 + v / 10 % 10) :: UInt8.ofNat (48 + v % 10) :: c :: r) = 3
    rw [tenDigits, if_pos a2, tenDigits, if_pos b2, tenDigits, if_pos c2, tenDigits, if_neg (by rw [(blnk_small hc).2.1]; simp)]
  show (if (UInt8.ofNat (48 + v / 100)).toNat = 34 then _ else if smallB (UInt8.ofNat (48 + v / 100)) = true then _ else if (UInt8.ofNat (48 + v / 100)).toNat = 48 then _ else if digitB (UInt8.ofNat (48 + v / 100)) = true then bounded 2 (tenDigits 10 (dec3 v ++ c :: r)) (dec3 v ++ c :: r) else _) = _
  rw [a1, if_neg (by omega), hs, if_neg (by simp), if_neg (by omega), if_pos a2, ht]
  exact bounded_ok rfl hc
end Go.Proofs.YtonbfcpbgkpbaaaDoor
end
section
/- Recipes: texts whose tokens are known, put together: the mathematics. -/
namespace Go.Proofs.YtonbfcpbgkpbaaaDoor
set_option linter.unusedVariables false
set_option linter.unusedSimpArgs false
abbrev KS := Nat × List UInt8
def ksOf (ts : List Tok) : List KS := ts.map fun t => (t.k, t.s)
/-- Blanks and whole remarks. -/
def Blk (b : List UInt8) : Prop := ∀ x, skipN false (b ++ x) = b.length + skipN false x
theorem blk_nil : Blk [] := fun x => by simp
theorem blk_one {c : UInt8} (h : blnkB c = true) : Blk [c] := fun x => by
  show skipN false (c :: x) = _
  rw [skipN, if_neg (by simp), if_pos h]
  rfl
theorem blk_app {a b : List UInt8} (ha : Blk a) (hb : Blk b) : Blk (a ++ b) := fun x => by
  rw [List.append_assoc, ha, hb, List.length_append]
  omega
theorem skip_rem {l : List UInt8} (h : ∀ x ∈ l, x.toNat ≠ 10) : ∀ x, skipN true (l ++ x) = l.length + skipN true x := by
  induction l with
  | nil => intro x; simp
  | cons c l ih =>
    intro x
    show skipN true (c :: (l ++ x)) = _
    rw [skipN, if_pos rfl, if_neg (h c (by simp)), ih (fun y hy => h y (by simp [hy]))]
    rw [List.length_cons]
    omega
/-- A remark up to its line's end. -/
theorem blk_rem {l : List UInt8} (h : ∀ x ∈ l, x.toNat ≠ 10) : Blk (35 :: l ++ [10]) := fun x => by
  show skipN false (35 :: (l ++ [10] ++ x)) = _
  rw [skipN, if_neg (by simp), if_neg (by decide), if_pos (by decide), List.append_assoc, skip_rem h]
  show 1 + (l.length + skipN true (10 :: x)) = _
  rw [skipN, if_pos rfl, if_pos (by decide)]
  simp
  omega
/-- A text that is blanks, and perhaps a remark without an end. -/
def BlkEnd (b : List UInt8) : Prop := skipN false b = b.length
/-- A text and its tokens. -/
inductive Txt : List UInt8 → List KS → Prop
  | fin (b : List UInt8) : BlkEnd b → Txt b []
  | tok (b tok : List UInt8) (r : List UInt8) (k : Nat) (s : List UInt8) (ts : List KS) : Blk b → k ≤ 5 → (∃ c l, tok = c :: l ∧ blnkB c = false ∧ c.toNat ≠ 35) → tokL (tok ++ r) = (k, tok.length, s) → Txt r ts → Txt (b ++ (tok ++ r)) ((k, s) :: ts)
theorem Txt.blk {b r : List UInt8} {ts : List KS} (hb : Blk b) (h : Txt r ts) : Txt (b ++ r) ts := by
  cases h with
  | fin _ h => exact .fin _ (by unfold BlkEnd at *; rw [hb, h, List.length_append])
  | tok b' tok r k s ts h1 h2 h3 h4 h5 =>
    rw [← List.append_assoc]
    exact .tok _ _ _ _ _ _ (blk_app hb h1) h2 h3 h4 h5
theorem strm_txt : ∀ (ts : List KS) (l : List UInt8), Txt l ts → ∀ f p, ts.length < f → ksOf (strm f l p) = ts ++ [(8, [])]
  | [], l, h, f, p, hf => by
    cases h with
    | fin _ h =>
      cases f with
      | zero => simp at hf
      | succ f =>
        rw [strm]
        have : l.drop (skipN false l) = [] := by rw [show skipN false l = l.length from h]; exact List.drop_length
        simp only [this]
        rfl
  | (k, s) :: ts, l, h, f, p, hf => by
    cases h with
    | tok b tok r _ _ _ h1 h2 h3 h4 h5 =>
      cases f with
      | zero => simp at hf
      | succ f =>
        obtain ⟨c, l', rfl, hc1, hc2⟩ := h3
        have e0 : skipN false (b ++ (c :: l' ++ r)) = b.length := by
          rw [h1]
          show b.length + skipN false (c :: (l' ++ r)) = _
          rw [skipN, if_neg (by simp), if_neg (by rw [hc1]; simp), if_neg hc2]
          rfl
        rw [strm]
        simp only [e0, List.drop_left, h4]
        rw [if_pos h2]
        have e1 : (b ++ (c :: l' ++ r)).drop (b.length + (c :: l').length) = r := by
          rw [← List.drop_drop, List.drop_left, List.drop_left]
        rw [e1]
        show (k, s) :: ksOf _ = _
        rw [strm_txt ts r h5 f _ (by simp at hf; omega)]
        rfl
theorem Txt.len {l : List UInt8} {ts : List KS} (h : Txt l ts) : ts.length ≤ l.length := by
  induction h with
  | fin _ _ => simp
  | tok b tok r k s ts h1 h2 h3 h4 h5 ih =>
    obtain ⟨c, l', rfl, _⟩ := h3
    simp only [List.length_cons, List.length_append]
    omega
/-- A piece of text that stands for some tokens, whatever follows. -/
def Chunk (x : List UInt8) (ts : List KS) : Prop := ∀ r rs, Txt r rs → Txt (x ++ r) (ts ++ rs)
theorem chunk_nil : Chunk [] [] := fun r rs h => h
theorem Chunk.app {x y : List UInt8} {xs ys : List KS} (h : Chunk x xs) (k : Chunk y ys) : Chunk (x ++ y) (xs ++ ys) := fun r rs hr => by
  rw [List.append_assoc, List.append_assoc]
  exact h _ _ (k _ _ hr)
theorem chunk_blk {b : List UInt8} (h : Blk b) : Chunk b [] := fun r rs hr => hr.blk h
/-- What stands behind a token: blanks, the first of which is a blank itself. -/
def Gap (w : List UInt8) : Prop := Blk w ∧ ∃ c l, w = c :: l ∧ blnkB c = true
theorem chunk_tok {tok w : List UInt8} {k : Nat} {s : List UInt8} (h : TkOk tok k s) (hw : Gap w) : Chunk (tok ++ w) [(k, s)] := fun r rs hr => by
  obtain ⟨hb, c, l, rfl, hc⟩ := hw
  have h2 := hr.blk hb
  rw [List.append_assoc]
  refine .tok [] tok _ k s rs blk_nil h.kind h.head ?_ h2
  exact h.tok_ c (l ++ r) hc
theorem gap_sp : Gap [32] := ⟨blk_one (by decide), _, _, rfl, by decide⟩
theorem gap_nl : Gap [10] := ⟨blk_one (by decide), _, _, rfl, by decide⟩
/-- Tokens joined by spaces. -/
theorem chunk_join (ts : List (List UInt8)) (ks : List KS) (hl : ks.length = ts.length) (h : ∀ i, i < ts.length → TkOk (ts.getD i []) (ks.getD i (0, [])).1 (ks.getD i (0, [])).2) :
    ∀ k, k ≤ ts.length → ∀ w, (0 < k → Gap w) → (k = 0 → w = []) → Chunk (jn ts k ++ w) (ks.take k)
  | 0, _, w, _, hw => by
    rw [hw rfl]
    exact chunk_nil
  | k + 1, hk, w, hw, _ => by
    have hg := hw (by omega)
    have ht := h k (by omega)
    have e : ks.take (k + 1) = ks.take k ++ [((ks.getD k (0, [])).1, (ks.getD k (0, [])).2)] := by
      have hk2 : k < ks.length := by omega
      have e2 : ks.getD k (0, []) = ks[k] := by simp [List.getD, List.getElem?_eq_getElem hk2]
      rw [List.take_add_one, List.getElem?_eq_getElem hk2, e2]
      rfl
    rw [e, jn_succ]
    by_cases h0 : 0 < k
    · rw [if_pos h0]
      rw [show jn ts k ++ ([32] ++ ts.getD k []) ++ w = (jn ts k ++ [32]) ++ (ts.getD k [] ++ w) by simp]
      exact (chunk_join ts ks hl h k (by omega) [32] (fun _ => gap_sp) (fun e => by omega)).app (chunk_tok ht hg)
    · have : k = 0 := by omega
      subst this
      rw [if_neg h0]
      exact (chunk_nil).app (chunk_tok ht hg)
end Go.Proofs.YtonbfcpbgkpbaaaDoor
end
section
/- recipe.areRunes of any list: its contract. -/
namespace Go.Proofs.YtonbfcpbgkpbaaaDoor
open Go.RowKit Go.Sort Go.Joins
set_option linter.unusedVariables false
set_option linter.unusedSimpArgs false
set_option maxRecDepth 100000
/-- A scalar value? -/
def scalZ (n : Int) : Bool := decide (0 ≤ n) && (decide (n ≤ 55295) || (decide (57344 ≤ n) && decide (n ≤ 1114111)))
theorem scalZ_any (n : Int) (w : World) : Calls Tryd.prog 29 #[.int .i32 n] w fun e w' => e = .returned (.bool (scalZ n)) ∧ w' = w := by
  by_cases h0 : 0 ≤ n
  · have h := scalar_any n h0 w
    unfold scalZ
    rw [decide_eq_true h0, Bool.true_and]
    exact h
  · have d0 : decide (0 ≤ n) = false := decide_eq_false h0
    have d1 : decide (57344 ≤ n) = false := decide_eq_false (by omega)
    unfold scalZ
    rw [d0, Bool.false_and]
    clear h0
    go_enter Tryd.func29, Tryd.ntmps29
    go_wp2_with fail
    go_ret
    exact ⟨rfl, rfl⟩
def spOk (x : Sp) : Bool := scalZ x.lo && scalZ x.hi
theorem SPS.cellsAt {w : World} {a : Option Addr} {l : List Sp} (h : SPS w a l) {k : Nat} (hk : k < l.length) : ∃ b off, a = some ⟨b, off, none⟩ ∧ w.cell? ⟨b, off + k * 2, none⟩ = some (.int .i32 l[k].lo) ∧ w.cell? ⟨b, off + k * 2 + 1, none⟩ = some (.int .i32 l[k].hi) := by
  rcases h with h | ⟨b, off, ha, hc⟩
  · rw [h] at hk; simp at hk
  · exact ⟨b, off, ha, hc k l[k] (List.getElem?_eq_getElem hk)⟩
theorem all_take {α : Type} (p : α → Bool) (l : List α) (k : Nat) (hk : k < l.length) : (l.take (k + 1)).all p = ((l.take k).all p && p l[k]) := by
  rw [List.take_add_one, List.getElem?_eq_getElem hk, Option.toList_some, List.all_append]
  simp
theorem all_cut {α : Type} (p : α → Bool) (l : List α) (k : Nat) (h : (l.take k).all p = false) : l.all p = false := by
  rw [← List.take_append_drop k l, List.all_append, h, Bool.false_and]
set_option maxHeartbeats 2000000 in
theorem runes_any (a : Option Addr) (c : Nat) (l : List Sp) (w : World) (h : SPS w a l) (hn : l.length ≤ 4611686018427387904) :
    Calls Tryd.prog 15 #[.slice a l.length c] w fun e w' => e = .returned (.bool (l.all spOk)) ∧ Below w.heap.size w w' := by
  have HS := Lib.hid h
  obtain ⟨n, hl⟩ : ∃ n, n = l.length := ⟨_, rfl⟩
  have HL := Lib.hid hl
  rw [← hl] at hn ⊢
  clear h hl
  go_enter Tryd.func15, Tryd.ntmps15
  go_wp2_with fail
  go_loopw [4, 7] (fun x i wr => ∃ k : Nat, k ≤ n ∧ i = .int .i64 (k : Nat) ∧ (l.take k).all spOk = true ∧ Below w.heap.size w wr) (fun _ i _ => n - (intOf i).toNat)
  case atStart => exact ⟨0, Nat.zero_le _, rfl, by simp, Below.refl _ _⟩
  case round =>
    obtain ⟨k, hk, rfl, hall, hb⟩ := hrel
    by_cases hlt : k < n
    · have hkl : k < l.length := by have := HL.out; omega
      obtain ⟨b, off, rfl, c0, c1⟩ := (HS.out.below hb).cellsAt hkl
      have HA := Lib.hid (all_take spOk l k hkl)
      have HCUT := Lib.hid (all_cut spOk l (k + 1))
      obtain ⟨x, hx⟩ : ∃ x, x = l[k] := ⟨_, rfl⟩
      rw [← hx] at c0 c1 HA
      have HALL := Lib.hid hall
      have bx := box_below wr (.cells #[.int .i32 x.lo, .int .i32 x.hi] 31)
      have HB := Lib.hid (hb.trans (bx.mono hb.size))
      clear hall hb hx bx
      have h1 := fun wx => scalZ_any x.lo wx
      have h2 := fun wx => scalZ_any x.hi wx
      cases e1 : scalZ x.lo with
      | false =>
        rw [e1] at h1
        have hf : l.all spOk = false := HCUT.out (by rw [HA.out, HALL.out]; simp [spOk, e1])
        have HF := Lib.hid hf
        clear e1 hf
        go_wp2_with fail
        refine (h1 _).mono ?_
        rintro e w' ⟨rfl, hw⟩
        rw [hw]
        go_wp2_with fail
        go_ret
        exact ⟨by rw [HF.out]; rfl, HB.out⟩
      | true =>
        rw [e1] at h1
        cases e2 : scalZ x.hi with
        | false =>
          rw [e2] at h2
          have hf : l.all spOk = false := HCUT.out (by rw [HA.out, HALL.out]; simp [spOk, e2])
          have HF := Lib.hid hf
          clear e1 e2 hf
          go_wp2_with fail
          refine (h1 _).mono ?_
          rintro e w' ⟨rfl, hw⟩
          rw [hw]
          clear hw w'
          go_wp2_with fail
          refine (h2 _).mono ?_
          rintro e w' ⟨rfl, hw⟩
          rw [hw]
          go_wp2_with fail
          go_ret
          exact ⟨by rw [HF.out]; rfl, HB.out⟩
        | true =>
          rw [e2] at h2
          have HX := Lib.hid (show spOk x = true by simp [spOk, e1, e2])
          clear e1 e2
          go_wp2_with fail
          refine (h1 _).mono ?_
          rintro e w' ⟨rfl, hw⟩
          rw [hw]
          clear hw w'
          go_wp2_with fail
          refine (h2 _).mono ?_
          rintro e w' ⟨rfl, hw⟩
          rw [hw]
          clear hw w'
          go_wp2_with fail
          go_roundw
          case rel => exact ⟨k + 1, by omega, by go_num, by rw [HA.out, HALL.out, HX.out]; rfl, HB.out⟩
          case measure => simp only [intOf]; omega
    · obtain rfl : k = n := by omega
      have hf : l.all spOk = true := by
        have := HL.out
        rwa [List.take_of_length_le (by omega)] at hall
      have HF := Lib.hid hf
      have HB := Lib.hid hb
      clear hall hf hb
      go_wp2_with fail
      go_ret
      exact ⟨by rw [HF.out]; rfl, HB.out⟩
end Go.Proofs.YtonbfcpbgkpbaaaDoor
end
section
/- recipe.class of any list of scalar values: its contract. -/
namespace Go.Proofs.YtonbfcpbgkpbaaaDoor
open Go.RowKit Go.Sort Go.Joins
set_option linter.unusedVariables false
set_option linter.unusedSimpArgs false
set_option maxRecDepth 100000
/-- The tokens of a span. -/
def spT (x : Sp) : List (List UInt8) := if x.hi = x.lo then [runeTok x.lo.toNat] else [runeTok x.lo.toNat, [46, 46], runeTok x.hi.toNat]
theorem spT_len (x : Sp) : (spT x).length ≤ 3 := by unfold spT; split <;> simp
/-- The tokens of a class's line. -/
def clsT (nm : List UInt8) (l : List Sp) : List (List UInt8) := [nm, [123]] ++ l.flatMap spT ++ [[125]]
theorem flatT_len (l : List Sp) : (l.flatMap spT).length ≤ 3 * l.length := by
  induction l with
  | nil => simp
  | cons x l ih => rw [List.flatMap_cons, List.length_append, List.length_cons]; have := spT_len x; omega
theorem scalZ_nat {n : Int} (h : scalZ n = true) : ∃ m : Nat, n = (m : Int) ∧ m ≤ 1114111 ∧ n.toNat = m := by
  unfold scalZ at h
  simp at h
  exact ⟨n.toNat, by omega, by omega, rfl⟩
theorem toks_step (W : World) (base : Nat) (v : Value) (l xs : List (List UInt8)) (h : OwnG 9 1 encS1 W base v l) (hb : base ≤ W.heap.size) (hn : l.length + xs.length ≤ 1000000000000) :
    ∃ v' w2, (Builtin.append_ #[22, 22] 22 #[v, .slice (some ⟨W.heap.size, 0, none⟩) xs.length xs.length]).run Tryd.prog (W.alloc (.cells (xs.flatMap encS1).toArray 9)) = .ok v' w2 ∧ OwnG 9 1 encS1 w2 base v' (l ++ xs) ∧ Below base W w2 ∧ ∀ j, j < W.heap.size → v.ownBlock ≠ some j → w2.heap[j]? = W.heap[j]? := by
  obtain ⟨i0, hi, hz0, hz1, hz2⟩ := info_parts infoStr
  have hbx := box_below W (.cells (xs.flatMap encS1).toArray 9)
  have hown : OwnG 9 1 encS1 (W.alloc (.cells (xs.flatMap encS1).toArray 9)) base v l := h.below hbx (Nat.le_refl _)
  have hx := heap_alloc_new W (.cells (xs.flatMap encS1).toArray 9)
  have hlx : (xs.flatMap encS1).length = xs.length * 1 := flat_length (enc := encS1) (k := 1) (fun _ => rfl) xs
  obtain ⟨v', w2, h1, h2, h3, _⟩ := run_append_own (P := Tryd.prog) (W.alloc (.cells (xs.flatMap encS1).toArray 9)) base 22 22 9 i0 _ 1 16 Tryd.underlying22 hi hz0 hz1 hz2 rfl (by decide) v l.length (l.flatMap encS1) hown ⟨W.heap.size, 0, none⟩ xs.length xs.length (xs.flatMap encS1) hlx (fun j u hu => by
    rw [cell_add, Nat.zero_add, cell_of_block hx]
    simpa using hu) (fun u hu => by
    rw [flat_one] at hu
    obtain ⟨y, _, rfl⟩ := List.mem_map.1 hu
    rfl) (by unfold maxLen; omega) (by omega) (by rw [World.size_alloc]; omega)
  refine ⟨v', w2, h1, ?_, ?_, fun j hj hne => ?_⟩
  · unfold OwnG
    rw [List.length_append, List.flatMap_append]
    exact h2
  · exact (hbx.mono hb).grown h3 (by rw [World.size_alloc]; omega) (fun k hk => (h.block hk).1)
  · rw [h3.block j (by rw [World.size_alloc]; omega) (fun e => hne e.symm)]
    exact hbx.block j hj
set_option maxHeartbeats 4000000 in
theorem class_any (nm : List UInt8) (a : Option Addr) (c : Nat) (l : List Sp) (w : World) (h : SPS w a l) (hn : l.length ≤ 100000000000) (hok : l.all spOk = true) :
    Calls Tryd.prog 19 #[.string (textOf nm), .slice a l.length c] w fun e w' => ∃ v, e = .returned v ∧ OwnG 9 1 encS1 w' w.heap.size v (clsT nm l) ∧ Below w.heap.size w w' := by
  have HS := Lib.hid h
  obtain ⟨n, hl⟩ : ∃ n, n = l.length := ⟨_, rfl⟩
  have HL := Lib.hid hl
  have HOK := Lib.hid hok
  rw [← hl] at hn ⊢
  have hO0 : OwnG 9 1 encS1 (w.alloc (.cells #[.string (textOf nm), .string ⟨#[123]⟩] 9)) w.heap.size (.slice (some ⟨w.heap.size, 0, none⟩) 2 2) [nm, [123]] :=
    ⟨rfl, .inr ⟨w.heap.size, 2, _, rfl, Nat.le_refl _, heap_alloc_new w _, Nat.le_refl _, by decide, rfl, rfl⟩⟩
  have hb0 := box_below w (.cells #[.string (textOf nm), .string ⟨#[123]⟩] 9)
  obtain ⟨x0, hx0⟩ : ∃ x, x = textOf nm := ⟨_, rfl⟩
  rw [← hx0] at hO0 hb0 ⊢
  obtain ⟨X, hX⟩ : ∃ X, X = w.alloc (.cells #[.string x0, .string ⟨#[123]⟩] 9) := ⟨_, rfl⟩
  rw [← hX] at hO0 hb0
  have HX := Lib.hid hX
  have HO0 := Lib.hid hO0
  have HB0 := Lib.hid hb0
  clear h hl hok hX hx0 hO0 hb0
  go_enter Tryd.func19, Tryd.ntmps19
  go_wp2_with fail
  rw [← HX.out]
  clear HX
  go_loopw [5, 7, 12] (fun v y i wr => ∃ k : Nat, k ≤ n ∧ i = .int .i64 (k : Nat) ∧ OwnG 9 1 encS1 wr w.heap.size v ([nm, [123]] ++ (l.take k).flatMap spT) ∧ Below w.heap.size w wr) (fun _ _ i _ => n - (intOf i).toNat)
  case atStart => exact ⟨0, Nat.zero_le _, rfl, by simpa using HO0.out, HB0.out⟩
  case round =>
    obtain ⟨k, hk, rfl, hO, hb⟩ := hrel
    by_cases hlt : k < n
    · have hkl : k < l.length := by have := HL.out; omega
      have hox : spOk l[k] = true := List.all_eq_true.1 HOK.out _ (List.getElem_mem hkl)
      have htk : (l.take (k + 1)).flatMap spT = (l.take k).flatMap spT ++ spT l[k] := by rw [List.take_add_one, List.getElem?_eq_getElem hkl, Option.toList_some, List.flatMap_append]; simp
      have hlen := flatT_len (l.take k)
      rw [List.length_take] at hlen
      obtain ⟨b, off, rfl, c0, c1⟩ := (HS.out.below hb).cellsAt hkl
      obtain ⟨x, hx⟩ : ∃ x, x = l[k] := ⟨_, rfl⟩
      rw [← hx] at c0 c1 hox htk
      unfold spOk at hox
      rw [Bool.and_eq_true] at hox
      obtain ⟨lo, e0, hlo, f0⟩ := scalZ_nat hox.1
      obtain ⟨hi, e1, hhi, f1⟩ := scalZ_nat hox.2
      rw [e0] at c0
      rw [e1] at c1
      have hsp : spT x = if hi = lo then [runeTok lo] else [runeTok lo, [46, 46], runeTok hi] := by
        unfold spT
        rw [f0, f1, e0, e1]
        by_cases h : hi = lo
        · rw [if_pos h, if_pos (by omega)]
        · rw [if_neg h, if_neg (by omega)]
      have HT := Lib.hid htk
      have HSP := Lib.hid hsp
      have bx := box_below wr (.cells #[.int .i32 (lo : Nat), .int .i32 (hi : Nat)] 31)
      have hz := heap_alloc_new wr (.cells #[.int .i32 (lo : Nat), .int .i32 (hi : Nat)] 31)
      have hO1 := hO.below bx (Nat.le_refl _)
      have hb1 := hb.trans (bx.mono hb.size)
      have hne : u5.ownBlock ≠ some wr.heap.size := fun e => by have := (hO.block e).2.1; omega
      clear hx hox f0 f1 e0 e1 htk hsp
      go_upto_region 5 with fail
      obtain ⟨W1, hW1⟩ : ∃ W1, W1 = wr.alloc (.cells #[.int .i32 (lo : Nat), .int .i32 (hi : Nat)] 31) := ⟨_, rfl⟩
      have hs1 : W1.heap.size = wr.heap.size + 1 := by rw [hW1]; simp
      rw [← hW1] at hz hO1 hb1 ⊢
      clear bx hW1
      obtain ⟨v1, w2, hr, hO2, hb2, hk2⟩ := toks_step W1 w.heap.size u5 _ [runeTok lo] hO1 (by have := hb1.size; omega) (by simp only [List.length_append, List.length_cons, List.length_nil]; omega)
      obtain ⟨z, hzz⟩ : ∃ z, z = wr.heap.size := ⟨_, rfl⟩
      rw [← hzz] at hz hne hs1 ⊢
      have hz2 := (hk2 z (by omega) hne).trans hz
      have z0 : W1.cell? ⟨z, 0, none⟩ = some (.int .i32 (lo : Nat)) := by rw [cell_of_block hz]; rfl
      have z1 : W1.cell? ⟨z, 1, none⟩ = some (.int .i32 (hi : Nat)) := by rw [cell_of_block hz]; rfl
      have y0 : w2.cell? ⟨z, 0, none⟩ = some (.int .i32 (lo : Nat)) := by rw [cell_of_block hz2]; rfl
      have y1 : w2.cell? ⟨z, 1, none⟩ = some (.int .i32 (hi : Nat)) := by rw [cell_of_block hz2]; rfl
      have hT1 := runeToken_any lo hlo W1
      have hB2 := hb1.trans (hb2.mono (Nat.le_refl _))
      obtain ⟨tx, htx⟩ : ∃ tx, tx = textOf (runeTok lo) := ⟨_, rfl⟩
      simp only [List.length_cons, List.length_nil, List.flatMap_cons, List.flatMap_nil, encS1, List.append_nil, Nat.zero_add] at hr
      rw [← htx] at hT1 hr
      obtain ⟨av, nv, cv, rfl⟩ : ∃ av nv cv, v1 = .slice av nv cv := by
        obtain ⟨p, q, e⟩ := hO2.slice
        exact ⟨p, _, q, e⟩
      have HO2 := Lib.hid hO2
      have HB2 := Lib.hid hB2
      have HZ2 := Lib.hid hz2
      clear hO1 hb1 hO hb hz hne hk2 hb2 hO2 hB2 hz2 htx hzz hs1
      go_wp2_with fail
      refine hT1.mono ?_
      rintro e w' ⟨rfl, hw⟩
      rw [hw]
      clear hw w' hT1
      by_cases heq : hi = lo
      · have d0 : (((hi : Nat) : Int) != ((lo : Nat) : Int)) = false := by simp; omega
        go_wp2_with (at_builtin; refine wpList_append_run rfl (.tmp 16) (.tmp 20) 22 22 rfl _ _ rfl rfl _ w2 hr ?_; clear hr)
        go_roundw
        case rel =>
          refine ⟨k + 1, by omega, by go_num, ?_, HB2.out⟩
          rw [HT.out, HSP.out, if_pos heq]
          have := HO2.out
          rwa [List.append_assoc] at this
        case measure => simp only [intOf]; omega
      · have d0 : (((hi : Nat) : Int) != ((lo : Nat) : Int)) = true := by simp; omega
        have hT2 := runeToken_any hi hhi w2
        obtain ⟨v3, w4, hr2, hO4, hb4, hk4⟩ := toks_step w2 w.heap.size (.slice av nv cv) _ [[46, 46], runeTok hi] HO2.out (by have := HB2.out.size; omega) (by simp only [List.length_append, List.length_cons, List.length_nil]; omega)
        obtain ⟨ty, hty⟩ : ∃ ty, ty = textOf (runeTok hi) := ⟨_, rfl⟩
        simp only [List.length_cons, List.length_nil, List.flatMap_cons, List.flatMap_nil, encS1, List.append_nil, Nat.zero_add, List.cons_append, List.nil_append] at hr2
        rw [← hty] at hT2 hr2
        have HO4 := Lib.hid hO4
        have HB4 := Lib.hid (HB2.out.trans hb4)
        clear hO4 hb4 hk4 hty
        go_wp2_with (at_builtin; refine wpList_append_run rfl (.tmp 16) (.tmp 20) 22 22 rfl _ _ rfl rfl _ w2 hr ?_; clear hr)
        refine hT2.mono ?_
        rintro e w' ⟨rfl, hw⟩
        rw [hw]
        clear hw w' hT2
        go_wp2_with (at_builtin; refine wpList_append_run rfl (.tmp 27) (.tmp 31) 22 22 rfl _ _ rfl rfl _ w4 hr2 ?_; clear hr2)
        go_roundw
        case rel =>
          refine ⟨k + 1, by omega, by go_num, ?_, HB4.out⟩
          rw [HT.out, HSP.out, if_neg heq]
          have := HO4.out
          simpa [List.append_assoc] using this
        case measure => simp only [intOf]; omega
    · obtain rfl : k = n := by omega
      have htk : l.take k = l := List.take_of_length_le (by have := HL.out; omega)
      rw [htk] at hO
      have hlen := flatT_len l
      obtain ⟨v1, w2, hr, hO2, hb2, hk2⟩ := toks_step wr w.heap.size u5 _ [[125]] hO hb.size (by have := HL.out; simp only [List.length_append, List.length_cons, List.length_nil]; omega)
      simp only [List.length_cons, List.length_nil, List.flatMap_cons, List.flatMap_nil, encS1, List.append_nil, Nat.zero_add] at hr
      obtain ⟨av, nv, cv, rfl⟩ : ∃ av nv cv, v1 = .slice av nv cv := by
        obtain ⟨p, q, e⟩ := hO2.slice
        exact ⟨p, _, q, e⟩
      have HO2 := Lib.hid hO2
      have HB2 := Lib.hid (hb.trans hb2)
      clear hO hb hO2 hb2 hk2 hlen htk
      go_wp2_with (at_builtin; refine wpList_append_run rfl (.tmp 34) (.tmp 35) 22 22 rfl _ _ rfl rfl _ w2 hr ?_; clear hr)
      go_ret
      exact ⟨_, rfl, HO2.out, HB2.out⟩
end Go.Proofs.YtonbfcpbgkpbaaaDoor
end
section
/- Recipes: a list of rules as tokens, and what the parser makes of them: the mathematics. -/
namespace Go.Proofs.YtonbfcpbgkpbaaaDoor
set_option linter.unusedVariables false
set_option linter.unusedSimpArgs false
/-- A rule: a merge of two words and a number, or a list of spans of one of three classes. -/
inductive Rul
  | m (a b v : List UInt8)
  | c (i : Nat) (l : List Sp)
def clsNm (i : Nat) : List UInt8 := if i = 0 then sLetters else if i = 1 then sNumbers else sSpaces
def spKs (x : Sp) : List KS := if x.hi = x.lo then [(3, runeTok x.lo.toNat)] else [(3, runeTok x.lo.toNat), (5, sTo), (3, runeTok x.hi.toNat)]
def rulKs : Rul → List KS
  | .m a b v => [(1, sMerge), (4, a), (5, sPlus), (4, b), (5, sEq), (2, v)]
  | .c i l => (1, clsNm i) :: (5, sOpen) :: (l.flatMap spKs ++ [(5, sShut)])
/-- What is gathered, of the merges the texts alone. -/
structure RX where
  M : List (List UInt8 × List UInt8 × List UInt8)
  A : List Sp
  B : List Sp
  C : List Sp
def wrX (x : Wr) : List UInt8 × List UInt8 × List UInt8 := (x.l.s, x.r.s, x.i.s)
def rxOf (d : RD) : RX := ⟨d.M.map wrX, d.A, d.B, d.C⟩
def rulX (d : RX) : Rul → RX
  | .m a b v => { d with M := d.M ++ [(a, b, v)] }
  | .c i l => if i = 0 then { d with A := d.A ++ l } else if i = 1 then { d with B := d.B ++ l } else { d with C := d.C ++ l }
theorem ks_cons {T : List Tok} {k : Nat} {s : List UInt8} {r : List KS} (h : ksOf T = (k, s) :: r) : ∃ t T', T = t :: T' ∧ t.k = k ∧ t.s = s ∧ ksOf T' = r := by
  cases T with
  | nil => cases h
  | cons t T' =>
    unfold ksOf at h
    rw [List.map_cons] at h
    injection h with h1 h2
    injection h1 with h3 h4
    exact ⟨t, T', rfl, h3, h4, h2⟩
theorem take_empty {T : List Tok} {t : Tok} {k : Nat} (h : t.k = k) : takeP (mEmpty k) (false, t :: T) = (t, (false, T)) := by
  unfold takeP mEmpty
  simp [h]
theorem take_sgn {T : List Tok} {t : Tok} {s : List UInt8} (h : t.k = 5) (hs : t.s = s) : takeP (sgn s) (false, t :: T) = (t, (false, T)) := by
  unfold takeP sgn mOf
  simp [h, hs]
theorem meet_sgn {T : List Tok} {t : Tok} {s : List UInt8} (h : t.k = 5) (hs : t.s = s) : meetP (sgn s) (false, t :: T) = true := by
  unfold meetP sgn mOf
  simp [h, hs]
theorem meet_no {T : List Tok} {t : Tok} {k : Nat} (h : t.k ≠ k) : meetP (mEmpty k) (false, t :: T) = false := by
  unfold meetP mEmpty
  simp [h]
theorem meet_yes {T : List Tok} {t : Tok} {k : Nat} (h : t.k = k) : meetP (mEmpty k) (false, t :: T) = true := by
  unfold meetP mEmpty
  simp [h]
theorem mergeP_ok {T : List Tok} {a b v : List UInt8} {r : List KS} (h : ksOf T = (4, a) :: (5, sPlus) :: (4, b) :: (5, sEq) :: (2, v) :: r) : ∃ x T', mergeP (false, T) = (x, (false, T')) ∧ wrX x = (a, b, v) ∧ ksOf T' = r := by
  obtain ⟨t1, T1, rfl, a1, b1, h1⟩ := ks_cons h
  obtain ⟨t2, T2, rfl, a2, b2, h2⟩ := ks_cons h1
  obtain ⟨t3, T3, rfl, a3, b3, h3⟩ := ks_cons h2
  obtain ⟨t4, T4, rfl, a4, b4, h4⟩ := ks_cons h3
  obtain ⟨t5, T5, rfl, a5, b5, h5⟩ := ks_cons h4
  refine ⟨⟨t1, t3, t5⟩, T5, ?_, ?_, h5⟩
  · unfold mergeP
    simp only [take_empty a1, take_sgn a2 b2, take_empty a3, take_sgn a4 b4, take_empty a5]
  · unfold wrX
    rw [← b1, ← b3, ← b5]
/-- A span whose ends are scalar values. -/
def SpFit (x : Sp) : Prop := (∃ n : Nat, x.lo = n ∧ n ≤ 1114111) ∧ ∃ n : Nat, x.hi = n ∧ n ≤ 1114111
theorem spanP_ok {T : List Tok} {x : Sp} {r : List KS} (hx : SpFit x) (hr : ∀ s r', r = (5, s) :: r' → s ≠ sTo) (h : ksOf T = spKs x ++ r) : ∃ T', spanP (false, T) = (x, (false, T')) ∧ ksOf T' = r ∧ ∃ t T2, T = t :: T2 ∧ t.k = 3 := by
  obtain ⟨⟨lo, hlo, hlo2⟩, ⟨hi, hhi, hhi2⟩⟩ := hx
  obtain ⟨xlo, xhi⟩ := x
  simp only at hlo hhi
  subst hlo
  subst hhi
  unfold spKs at h
  by_cases e : hi = lo
  · subst e
    simp only [if_true, List.cons_append, List.nil_append, Int.toNat_natCast] at h
    obtain ⟨t1, T1, rfl, a1, b1, h1⟩ := ks_cons h
    refine ⟨T1, ?_, h1, t1, T1, rfl, a1⟩
    have hm : meetP (sgn sTo) (false, T1) = false := by
      cases T1 with
      | nil => rfl
      | cons t T2 =>
        unfold meetP sgn mOf
        by_cases hk : t.k = 5
        · have := hr t.s (ksOf T2) (by rw [← h1]; unfold ksOf; rw [List.map_cons, hk])
          simp [hk, this]
        · simp [hk]
    unfold spanP
    simp only [take_empty a1, hm, b1, runeV_tok hlo2]
    rfl
  · have e2 : ¬ ((hi : Nat) : Int) = ((lo : Nat) : Int) := by omega
    simp only [e2, if_false, List.cons_append, List.nil_append, Int.toNat_natCast] at h
    obtain ⟨t1, T1, rfl, a1, b1, h1⟩ := ks_cons h
    obtain ⟨t2, T2, rfl, a2, b2, h2⟩ := ks_cons h1
    obtain ⟨t3, T3, rfl, a3, b3, h3⟩ := ks_cons h2
    refine ⟨T3, ?_, h3, t1, _, rfl, a1⟩
    unfold spanP
    simp only [take_empty a1, meet_sgn a2 b2, take_sgn a2 b2, take_empty a3, b1, b3, runeV_tok hlo2, runeV_tok hhi2]
    rfl
theorem spKs_head (l : List Sp) (r : List KS) : ∀ s r', l.flatMap spKs ++ (5, sShut) :: r = (5, s) :: r' → s ≠ sTo := by
  intro s r' h
  cases l with
  | nil =>
    injection h with h1 _
    injection h1 with _ h2
    rw [← h2]
    decide
  | cons x l =>
    rw [List.flatMap_cons] at h
    unfold spKs at h
    split at h
    · injection h with h1 _
      injection h1 with h2 _
      cases h2
    · injection h with h1 _
      injection h1 with h2 _
      cases h2
theorem spanF_ok : ∀ (l : List Sp) (f : Nat) (T : List Tok) (r : List KS), (∀ x ∈ l, SpFit x) → l.length < f → ksOf T = l.flatMap spKs ++ (5, sShut) :: r → ∃ T', spanF f (false, T) = (l, (false, T')) ∧ ksOf T' = (5, sShut) :: r
  | [], f, T, r, _, hf, h => by
    cases f with
    | zero => simp at hf
    | succ f =>
      obtain ⟨t, T', rfl, a, b, h1⟩ := ks_cons h
      exact ⟨t :: T', by rw [spanF, meet_no (by rw [a]; decide)]; rfl, h⟩
  | x :: l, f, T, r, hx, hf, h => by
    cases f with
    | zero => simp at hf
    | succ f =>
      rw [List.flatMap_cons, List.append_assoc] at h
      obtain ⟨T', h1, h2, t, T2, rfl, h3⟩ := spanP_ok (hx x (by simp)) (spKs_head l r) h
      obtain ⟨T3, h4, h5⟩ := spanF_ok l f T' r (fun y hy => hx y (by simp [hy])) (by simp at hf; omega) h2
      refine ⟨T3, ?_, h5⟩
      rw [spanF, meet_yes h3, if_pos rfl]
      simp only [h1, h4]
theorem flat_len (l : List Sp) : l.length ≤ (l.flatMap spKs).length := by
  induction l with
  | nil => simp
  | cons x l ih =>
    rw [List.flatMap_cons, List.length_append, List.length_cons]
    have : 1 ≤ (spKs x).length := by unfold spKs; split <;> simp
    omega
theorem spansP_ok {T : List Tok} {l : List Sp} {r : List KS} (hl : ∀ x ∈ l, SpFit x) (h : ksOf T = (5, sOpen) :: (l.flatMap spKs ++ [(5, sShut)]) ++ r) : ∃ T', spansP (false, T) = (l, (false, T')) ∧ ksOf T' = r := by
  rw [List.cons_append, List.append_assoc] at h
  obtain ⟨t1, T1, rfl, a1, b1, h1⟩ := ks_cons h
  have hlen : l.length < T1.length := by
    have := congrArg List.length h1
    unfold ksOf at this
    rw [List.length_map, List.length_append] at this
    have := flat_len l
    simp at *
    omega
  obtain ⟨T2, h2, h3⟩ := spanF_ok l T1.length T1 r hl hlen h1
  obtain ⟨t3, T3, rfl, a3, b3, h4⟩ := ks_cons h3
  refine ⟨T3, ?_, h4⟩
  unfold spansP
  simp only [take_sgn a1 b1, h2, take_sgn a3 b3]
def RulFit : Rul → Prop
  | .m _ _ _ => True
  | .c i l => i < 3 ∧ ∀ x ∈ l, SpFit x
theorem name_take {T : List Tok} {t : Tok} (h : t.k = 1) (hs : t.s = sMerge ∨ t.s = sLetters ∨ t.s = sNumbers ∨ t.s = sSpaces) : takeP nameM (false, t :: T) = (t, (false, T)) := by
  have hm : nameM t = true := by
    show (t.k == 1 && [sMerge, sLetters, sNumbers, sSpaces].contains t.s) = true
    rw [h]
    rcases hs with hs | hs | hs | hs <;> rw [hs] <;> decide
  show (if nameM t = true then _ else _) = _
  rw [if_pos hm]
theorem ruleP_ok {R : Rul} {T : List Tok} {d : RD} {r : List KS} (hR : RulFit R) (h : ksOf T = rulKs R ++ r) : ∃ d' T', ruleP (false, T) d = (d', (false, T')) ∧ rxOf d' = rulX (rxOf d) R ∧ ksOf T' = r ∧ headK (false, T) ≠ 8 := by
  cases R with
  | m a b v =>
    obtain ⟨t, T1, rfl, a1, b1, h1⟩ := ks_cons h
    obtain ⟨x, T2, h2, h3, h4⟩ := mergeP_ok h1
    refine ⟨{ d with M := d.M ++ [x] }, T2, ?_, ?_, h4, by show t.k ≠ 8; omega⟩
    · unfold ruleP
      simp only [name_take a1 (.inl b1), b1, h2]
      rfl
    · unfold rxOf rulX
      simp [h3]
  | c i l =>
    obtain ⟨hi, hl⟩ := hR
    obtain ⟨t, T1, rfl, a1, b1, h1⟩ := ks_cons h
    obtain ⟨T2, h2, h4⟩ := spansP_ok hl h1
    have hi3 : i = 0 ∨ i = 1 ∨ i = 2 := by omega
    rcases hi3 with rfl | rfl | rfl
    · have b1' : t.s = sLetters := b1
      refine ⟨{ d with A := d.A ++ l }, T2, ?_, rfl, h4, by show t.k ≠ 8; omega⟩
      unfold ruleP
      simp only [name_take a1 (.inr (.inl b1')), b1', h2]
      simp [sMerge, sLetters, sNumbers, sSpaces]
    · have b1' : t.s = sNumbers := b1
      refine ⟨{ d with B := d.B ++ l }, T2, ?_, rfl, h4, by show t.k ≠ 8; omega⟩
      unfold ruleP
      simp only [name_take a1 (.inr (.inr (.inl b1'))), b1', h2]
      simp [sMerge, sLetters, sNumbers, sSpaces]
    · have b1' : t.s = sSpaces := b1
      refine ⟨{ d with C := d.C ++ l }, T2, ?_, rfl, h4, by show t.k ≠ 8; omega⟩
      unfold ruleP
      simp only [name_take a1 (.inr (.inr (.inr b1'))), b1', h2]
      simp [sMerge, sLetters, sNumbers, sSpaces]
theorem rulesF_ok : ∀ (Rs : List Rul) (f : Nat) (T : List Tok) (d : RD), (∀ R ∈ Rs, RulFit R) → Rs.length < f → ksOf T = Rs.flatMap rulKs ++ [(8, [])] → ∃ d' T', rulesF f (false, T) d = (d', (false, T')) ∧ rxOf d' = Rs.foldl rulX (rxOf d)
  | [], f, T, d, _, hf, h => by
    obtain ⟨t, T', rfl, a, b, h1⟩ := ks_cons h
    cases f with
    | zero => simp at hf
    | succ f =>
      refine ⟨d, t :: T', ?_, rfl⟩
      rw [rulesF, if_neg (by show ¬(false = false ∧ t.k ≠ 8); rw [a]; simp)]
  | R :: Rs, f, T, d, hR, hf, h => by
    cases f with
    | zero => simp at hf
    | succ f =>
      rw [List.flatMap_cons, List.append_assoc] at h
      obtain ⟨d1, T1, h1, h2, h3, h4⟩ := ruleP_ok (d := d) (hR R (by simp)) h
      obtain ⟨d2, T2, h5, h6⟩ := rulesF_ok Rs f T1 d1 (fun x hx => hR x (by simp [hx])) (by simp at hf; omega) h3
      refine ⟨d2, T2, ?_, ?_⟩
      · rw [rulesF, if_pos ⟨rfl, h4⟩, h1]
        exact h5
      · rw [h6, h2]
        rfl
theorem rul_len (Rs : List Rul) : Rs.length ≤ (Rs.flatMap rulKs).length := by
  induction Rs with
  | nil => simp
  | cons x l ih =>
    rw [List.flatMap_cons, List.length_append, List.length_cons]
    have : 1 ≤ (rulKs x).length := by cases x <;> simp [rulKs]
    omega
/-- What is read of a text of rules. -/
theorem parse_rules {l : List UInt8} {Rs : List Rul} (hl : l.length ≤ 4194304) (hR : ∀ R ∈ Rs, RulFit R) (h : Txt l (Rs.flatMap rulKs)) :
    ∃ rd : RD, rxOf rd = Rs.foldl rulX ⟨[], [], [], []⟩ ∧ parseA l = match meanF rd.M ⟨List.replicate rd.M.length [], [], []⟩ with
      | .error e => .error e
      | .ok d => .ok ⟨d.W, d.M, rd.A, rd.B, rd.C⟩ := by
  have hT := strm_txt _ _ h (l.length + 1) 0 (by have := h.len; omega)
  obtain ⟨T, hTd⟩ : ∃ T, T = strm (l.length + 1) l 0 := ⟨_, rfl⟩
  rw [← hTd] at hT
  have hTl : Rs.length < T.length := by
    have := congrArg List.length hT
    unfold ksOf at this
    rw [List.length_map, List.length_append] at this
    have := rul_len Rs
    simp at *
    omega
  obtain ⟨rd, T', h1, h2⟩ := rulesF_ok Rs T.length T ⟨[], [], [], []⟩ hR hTl hT
  refine ⟨rd, h2, ?_⟩
  unfold parseA
  rw [if_neg (by omega)]
  simp only [← hTd, h1, Bool.false_eq_true, if_false]
  cases meanF rd.M ⟨List.replicate rd.M.length [], [], []⟩ <;> rfl
end Go.Proofs.YtonbfcpbgkpbaaaDoor
end
