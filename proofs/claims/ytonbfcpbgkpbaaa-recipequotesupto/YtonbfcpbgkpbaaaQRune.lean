/- Tokens are what they are; recipe's parser.rune: its contract. -/
import Derived.Test.YtonbfcpbgkpbaaaQTake3
import Derived.Test.YtonbfcpbgkpbaaaQRows
namespace Go.Proofs.Ytonbfcpbgkpbaaa
open Go.RowKit Go.Sort Go.Joins
set_option linter.unusedVariables false
set_option linter.unusedSimpArgs false
set_option maxRecDepth 100000
/-- Of a rune: its digits; of a number: its digits. -/
def TokOk (t : Tok) : Prop := (t.k = 3 → ∃ D, t.s = 85 :: 43 :: D ∧ D.length ≤ 6 ∧ ∀ c ∈ D, capB c = true) ∧ (t.k = 2 → t.s.length ≤ 10 ∧ ∀ c ∈ t.s, capB c = true)
theorem zeroT_ok : TokOk zeroT := ⟨(fun h => absurd h (by decide)), (fun h => absurd h (by decide))⟩
theorem field_text (a b : Int) (s : ByteArray) (w : World) : (Instr.field 76 (.agg #[.int .i64 a, .int .i64 b, .string s]) 2).run Try.prog w = .ok (.string s) w := by kernel_rfl
theorem TokOk.of {k a : Nat} {s : List UInt8} (h3 : k ≠ 3) (h2 : k ≠ 2) : TokOk ⟨k, a, s⟩ := ⟨fun h => absurd h h3, fun h => absurd h h2⟩
theorem bounded_fst (k n : Nat) (l : List UInt8) : (bounded k n l).1 = 6 ∨ (bounded k n l).1 = k := by
  unfold bounded
  by_cases h : headOn (l.drop n) = true
  · rw [if_pos h]; exact .inl rfl
  · rw [if_neg h]; exact .inr rfl
theorem take_takeWhile (p : UInt8 → Bool) (l : List UInt8) : l.take (l.takeWhile p).length = l.takeWhile p := by
  induction l with
  | nil => rfl
  | cons c l ih =>
    cases h : p c with
    | true => rw [List.takeWhile_cons_of_pos h, List.length_cons, List.take_succ_cons, ih]
    | false => rw [List.takeWhile_cons_of_neg (by rw [h]; decide)]; rfl
theorem ten_all : ∀ (f : Nat) (l : List UInt8), tenDigits f l ≤ f ∧ ∀ c ∈ l.take (tenDigits f l), digitB c = true := by
  intro f
  induction f with
  | zero => intro l; exact ⟨Nat.le_refl _, fun c hc => by simp [tenDigits] at hc⟩
  | succ f ih =>
    intro l
    cases l with
    | nil => exact ⟨Nat.zero_le _, fun c hc => by simp at hc⟩
    | cons c l =>
      unfold tenDigits
      by_cases h : digitB c = true
      · rw [if_pos h]
        have := ih l
        refine ⟨by omega, fun x hx => ?_⟩
        rw [Nat.add_comm, List.take_succ_cons] at hx
        rcases List.mem_cons.1 hx with rfl | hx
        · exact h
        · exact this.2 x hx
      · rw [if_neg h]
        exact ⟨Nat.zero_le _, fun x hx => by simp at hx⟩
theorem digit_cap {c : UInt8} (h : digitB c = true) : capB c = true := by unfold capB; rw [h]; rfl
theorem tokL_ok (l : List UInt8) (a : Nat) : TokOk ⟨(tokL l).1, a, (tokL l).2.2⟩ := by
  cases l with
  | nil => exact .of (by decide) (by decide)
  | cons c l =>
    by_cases h34 : c.toNat = 34
    · rw [tok_word h34]
      have := wordW_kind l 0 0
      exact .of (by simp only; omega) (by simp only; omega)
    · cases h1 : smallB c with
      | true =>
        rw [tok_name h34 h1]
        have := bounded_fst 1 ((c :: l).takeWhile smallB).length (c :: l)
        exact .of (by omega) (by omega)
      | false =>
        by_cases h48 : c.toNat = 48
        · rw [tok_zero h34 h1 h48]
          have := bounded_fst 2 1 (c :: l)
          refine ⟨fun h => by simp only at h; omega, fun _ => ⟨by show (List.take 1 (c :: l)).length ≤ 10; simp, fun x hx => ?_⟩⟩
          have hx : x ∈ List.take 1 (c :: l) := hx
          simp at hx
          subst hx
          unfold capB digitB
          simp [h48]
        · cases h2 : digitB c with
          | true =>
            rw [tok_digits h34 h1 h48 h2]
            have := bounded_fst 2 (tenDigits 10 (c :: l)) (c :: l)
            have ht := ten_all 10 (c :: l)
            refine ⟨fun h => by simp only at h; omega, fun _ => ⟨?_, fun x hx => digit_cap (ht.2 x hx)⟩⟩
            show (List.take _ _).length ≤ 10
            rw [List.length_take]
            omega
          | false =>
            by_cases h4 : (c :: l).take 2 = [85, 43]
            · rw [tok_rune h34 h1 h48 h2 h4]
              refine ⟨fun h => ?_, fun h => ?_⟩
              · have hb := bounded_fst (if runeDB (((c :: l).drop 2).takeWhile capB) = true then 3 else 6) (2 + (((c :: l).drop 2).takeWhile capB).length) (c :: l)
                simp only at h
                have hr : runeDB (((c :: l).drop 2).takeWhile capB) = true := by
                  rcases hb with hb | hb
                  · rw [hb] at h; cases h
                  · rw [hb] at h
                    by_cases hr : runeDB (((c :: l).drop 2).takeWhile capB) = true
                    · exact hr
                    · rw [if_neg hr] at h; cases h
                refine ⟨((c :: l).drop 2).takeWhile capB, ?_, ?_, fun x hx => List.all_eq_true.1 List.all_takeWhile x hx⟩
                · show List.take (2 + (((c :: l).drop 2).takeWhile capB).length) (c :: l) = _
                  rw [List.take_add, h4, take_takeWhile]
                  rfl
                · unfold runeDB at hr
                  simp only [Bool.and_eq_true, decide_eq_true_eq] at hr
                  exact hr.1.1.2
              · have hb := bounded_fst (if runeDB (((c :: l).drop 2).takeWhile capB) = true then 3 else 6) (2 + (((c :: l).drop 2).takeWhile capB).length) (c :: l)
                simp only at h
                exfalso
                rcases hb with hb | hb
                · rw [hb] at h; cases h
                · rw [hb] at h
                  split at h <;> cases h
            · by_cases h5 : (c :: l).take 2 = [46, 46]
              · rw [tok_to h34 h1 h48 h2 h4 h5]; exact .of (show 5 ≠ 3 by decide) (show 5 ≠ 2 by decide)
              · by_cases h6 : c.toNat = 123 ∨ c.toNat = 125 ∨ c.toNat = 43 ∨ c.toNat = 61
                · rw [tok_sign h34 h1 h48 h2 h4 h5 h6]; exact .of (show 5 ≠ 3 by decide) (show 5 ≠ 2 by decide)
                · rw [tok_none h34 h1 h48 h2 h4 h5 h6]; exact .of (by decide) (by decide)
theorem strm_ok : ∀ (f : Nat) (l : List UInt8) (p : Nat), ∀ t ∈ strm f l p, TokOk t := by
  intro f
  induction f with
  | zero => intro l p t ht; simp [strm] at ht
  | succ f ih =>
    intro l p t ht
    unfold strm at ht
    simp only at ht
    rcases List.mem_cons.1 ht with rfl | ht
    · exact tokL_ok _ _
    · split at ht
      · exact ih _ _ t ht
      · simp at ht
/-- All tokens that are still to come are what they are. -/
def Toks (st : PS) : Prop := ∀ t ∈ st.2, TokOk t
theorem Toks.take {st : PS} (h : Toks st) (m : Tok → Bool) : Toks (takeP m st).2 ∧ TokOk (takeP m st).1 := by
  obtain ⟨bad, ts⟩ := st
  cases ts with
  | nil => cases bad <;> exact ⟨h, zeroT_ok⟩
  | cons t ts =>
    cases bad with
    | true => exact ⟨h, zeroT_ok⟩
    | false =>
      show Toks (if m t = true then (t, (false, ts)) else (zeroT, (true, t :: ts))).2 ∧ TokOk (if m t = true then (t, (false, ts)) else (zeroT, (true, t :: ts))).1
      by_cases hm : m t = true
      · rw [if_pos hm]
        exact ⟨fun x hx => h x (List.mem_cons_of_mem _ hx), h t List.mem_cons_self⟩
      · rw [if_neg hm]
        exact ⟨h, zeroT_ok⟩
/-- What is taken is of the kind that is asked for, or nothing. -/
theorem take_kind (k : Nat) (ws : List ByteArray) (st : PS) : (takeP (mW k ws) st).1 = zeroT ∨ (takeP (mW k ws) st).1.k = k := by
  obtain ⟨bad, ts⟩ := st
  cases ts with
  | nil => cases bad <;> exact .inl rfl
  | cons t ts =>
    cases bad with
    | true => exact .inl rfl
    | false =>
      show (if mW k ws t = true then (t, (false, ts)) else (zeroT, (true, t :: ts))).1 = zeroT ∨ (if mW k ws t = true then (t, (false, ts)) else (zeroT, (true, t :: ts))).1.k = k
      by_cases hm : mW k ws t = true
      · rw [if_pos hm]
        unfold mW at hm
        rw [Bool.and_eq_true] at hm
        exact .inr (by simpa using hm.1)
      · rw [if_neg hm]
        exact .inl rfl
theorem trim_rune (D : List UInt8) : trimB (textOf (85 :: 43 :: D)) ⟨#[85, 43]⟩ = textOf D := by
  unfold trimB
  rw [if_pos (by rw [preB_iff]; rfl)]
  rw [text_cut]
  have e : (tl (textOf (85 :: 43 :: D))).drop 2 = D := rfl
  show textOf (List.take ((textOf (85 :: 43 :: D)).size - 2) ((tl (textOf (85 :: 43 :: D))).drop 2)) = _
  rw [e, List.take_of_length_le (by simp [textOf, ByteArray.size])]
theorem trim_none : trimB (textOf []) ⟨#[85, 43]⟩ = textOf [] := by
  unfold trimB
  rw [if_neg (by rw [preB_iff]; decide)]
set_option maxHeartbeats 4000000 in
theorem rune_any (g : Nat) (src : ByteArray) (st : PS) (d : DV) (w : World) (h : PX w g src st d) (ht : Toks st) (hs : src.size ≤ 4194304) :
    Calls Try.prog 70 #[.pointer (some ⟨g, 0, none⟩)] w fun e w' => e = .returned (.int .i32 (runeV (takeP (mW 3 []) st).1.s : Nat)) ∧ PX w' g src (takeP (mW 3 []) st).2 d ∧ But g w.heap.size w w' := by
  have HT := take_any g src st d 3 none 0 [] w h (.inl rfl) (by simp) hs (by omega)
  have hfd := fun a b s wx => field_text a b s wx
  rw [show ([] : List ByteArray).length = 0 from rfl] at HT
  have hok := (ht.take (mW 3 [])).2
  have hkd := take_kind 3 [] st
  obtain ⟨r, hr⟩ : ∃ r, r = takeP (mW 3 []) st := ⟨_, rfl⟩
  rw [← hr] at HT hok hkd ⊢
  clear hr
  have hD : ∃ D : List UInt8, trimB (textOf r.1.s) ⟨#[85, 43]⟩ = textOf D ∧ runeV r.1.s = valF 16 0 D ∧ D.length ≤ 6 ∧ ∀ c ∈ D, capB c = true := by
    rcases hkd with hz | hk3
    · exact ⟨[], by rw [hz]; exact trim_none, by rw [hz]; rfl, by simp, by simp⟩
    · obtain ⟨D, h1, h2, h3⟩ := hok.1 hk3
      exact ⟨D, by rw [h1]; exact trim_rune D, by rw [h1]; rfl, h2, h3⟩
  obtain ⟨D, h1, h2, h3, h4⟩ := hD
  rw [h2]
  have hv := valF_six (b := 16) (by omega) h4 h3
  have HTR := fun wx => trim_any (textOf r.1.s) ⟨#[85, 43]⟩ (by
    rcases hkd with hz | hk3
    · rw [hz]; decide
    · obtain ⟨D', e1, e2, _⟩ := hok.1 hk3
      rw [e1]
      show (85 :: 43 :: D').toArray.size ≤ _
      simp
      omega) wx
  rw [h1] at HTR
  have HV := fun wx => valueOf_any (textOf D) 16 (by omega) (by show D.toArray.size ≤ 10; simp; omega) (by simpa [tl, textOf] using h4) wx
  rw [show tl (textOf D) = D by simp [tl, textOf]] at HV
  obtain ⟨v, hvv⟩ : ∃ v, v = valF 16 0 D := ⟨_, rfl⟩
  rw [← hvv] at HV hv ⊢
  have hw32 : wrap32 (v : Int) = (v : Int) := by unfold wrap32; omega
  obtain ⟨x, hx⟩ : ∃ x, x = textOf r.1.s := ⟨_, rfl⟩
  obtain ⟨y, hy⟩ : ∃ y, y = textOf D := ⟨_, rfl⟩
  rw [← hx] at HTR
  rw [← hy] at HTR HV
  have HTV : Hid (tokV r.1 = .agg #[.int .i64 (r.1.k : Nat), .int .i64 (r.1.at' : Nat), .string x]) := Lib.hid (by unfold tokV; rw [hx])
  clear h1 h2 h3 h4 hvv hkd hok hx hy ht h
  go_enter Try.func70, Try.ntmps70
  go_wp2_with fail
  refine HT.mono ?_
  rintro e w1 ⟨rfl, hP1, hb1⟩
  rw [HTV.out]
  clear HT
  go_wp2_with fail
  refine (HTR _).mono ?_
  rintro e w2 ⟨rfl, he⟩
  obtain rfl := he.symm
  clear HTR
  go_wp2_with fail
  refine (HV _).mono ?_
  rintro e w3 ⟨rfl, hb3⟩
  clear HV
  go_wp2_with fail
  go_ret
  exact ⟨rfl, hP1.below hb3 hP1.lt, hb1.trans (But.of_below (hb3.mono hb1.size))⟩
end Go.Proofs.Ytonbfcpbgkpbaaa
