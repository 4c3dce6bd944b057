/- recipe's parser: meets, refuse, take: their contracts. -/
import Derived.Test.YtonbfcpbgkpbaaaQNext
namespace Go.Proofs.Ytonbfcpbgkpbaaa
open Go.RowKit Go.Sort Go.Joins
set_option linter.unusedVariables false
set_option linter.unusedSimpArgs false
set_option maxRecDepth 100000
def containsB (ws : List ByteArray) (v : ByteArray) : Bool := ws.any fun x => v.toList == x.toList
set_option maxHeartbeats 1000000 in
theorem index_any (a : Option Addr) (c : Nat) (ws : List ByteArray) (v : ByteArray) (w : World) (h : WSP w a ws) (hn : ws.length ≤ 1000) :
    Calls Try.prog 89 #[.slice a ws.length c, .string v] w fun e w' => ∃ i : Int, e = .returned (.int .i64 i) ∧ (0 ≤ i ↔ containsB ws v = true) ∧ w' = w := by
  obtain ⟨n, hnn⟩ : ∃ n, n = ws.length := ⟨_, rfl⟩
  have HN := Lib.hid hnn
  rw [← hnn] at hn ⊢
  clear hnn
  go_enter Try.func89, Try.ntmps89
  go_wp2
  go_loop [8] (fun i => ∃ k : Nat, k ≤ n ∧ i = .int .i64 (k : Nat) ∧ ∀ j x, j < k → ws[j]? = some x → (v.toList == x.toList) = false) (fun i => n - (intOf i).toNat)
  case atStart => exact ⟨0, Nat.zero_le _, rfl, fun j x hj => by omega⟩
  case round =>
    obtain ⟨k, hk, rfl, hno⟩ := hrel
    have HNO := Lib.hid hno
    clear hno
    by_cases hlt : k < n
    · have hkl : k < ws.length := by rw [← HN.out]; exact hlt
      have hnil : ws ≠ [] := fun e => by rw [e] at hkl; simp at hkl
      rcases h with h | ⟨b, off, rfl, hc⟩
      · exact absurd h hnil
      obtain ⟨x, hx⟩ : ∃ x, ws[k]? = some x := ⟨ws[k], List.getElem?_eq_getElem hkl⟩
      have ck := hc k x hx
      have HX := Lib.hid hx
      have HC := Lib.hid hc
      clear hc hx hnil hkl
      cases hv : (v.toList == x.toList) with
      | true =>
        go_wp2_with fail
        go_ret
        refine ⟨(k : Nat), rfl, ⟨fun _ => ?_, fun _ => by omega⟩, rfl⟩
        exact List.any_eq_true.2 ⟨x, List.mem_of_getElem? HX.out, hv⟩
      | false =>
        go_wp2_with fail
        go_round
        case rel => exact ⟨k + 1, by omega, by go_num, fun j y hj hy => by
          by_cases hjk : j = k
          · subst hjk
            rw [HX.out] at hy
            cases hy
            exact hv
          · exact HNO.out j y (by omega) hy⟩
        case measure => simp [intOf]; omega
    · have hkn : k = n := by omega
      subst hkn
      go_wp2_with fail
      go_ret
      refine ⟨-1, rfl, ⟨fun h0 => by omega, fun h1 => ?_⟩, rfl⟩
      obtain ⟨x, hx, hv⟩ := List.any_eq_true.1 h1
      obtain ⟨j, hj⟩ := List.getElem?_of_mem hx
      have hjl : j < k := by
        have := (List.getElem?_eq_some_iff.1 hj).1
        rw [← HN.out] at this
        exact this
      have h3 := HNO.out j x hjl hj
      rw [hv] at h3
      cases h3
theorem contains_any (a : Option Addr) (c : Nat) (ws : List ByteArray) (v : ByteArray) (w : World) (h : WSP w a ws) (hn : ws.length ≤ 1000) :
    Calls Try.prog 81 #[.slice a ws.length c, .string v] w fun e w' => e = .returned (.bool (containsB ws v)) ∧ w' = w := by
  have H := index_any a c ws v w h hn
  obtain ⟨n, hnn⟩ : ∃ n, n = ws.length := ⟨_, rfl⟩
  rw [← hnn] at H ⊢
  clear hnn
  go_enter Try.func81, Try.ntmps81
  go_wp2_with fail
  refine H.mono ?_
  rintro e w1 ⟨i, rfl, hi, he⟩
  obtain rfl := he.symm
  have HE : Hid (decide (0 ≤ i) = containsB ws v) := Lib.hid (by rw [Bool.eq_iff_iff, decide_eq_true_eq]; exact hi)
  clear hi H
  go_wp2_with fail
  go_ret
  exact ⟨by rw [← HE.out]; rfl, rfl⟩
/-- The tokens from a place on. -/
def rest (l : List UInt8) (p : Nat) : List Tok := strm (l.length + 1) (l.drop p) p
theorem takeWhile_pos {p : UInt8 → Bool} {c : UInt8} {l : List UInt8} (h : p c = true) : 1 ≤ ((c :: l).takeWhile p).length := by
  rw [List.takeWhile_cons_of_pos h]; simp
theorem tokL_pos (l : List UInt8) (h : (tokL l).1 ≤ 5) : 1 ≤ (tokL l).2.1 ∧ l ≠ [] := by
  cases l with
  | nil => exact absurd h (by decide)
  | cons c l =>
    refine ⟨?_, by simp⟩
    by_cases h34 : c.toNat = 34
    · rw [tok_word h34]; show 1 ≤ _ + 1; omega
    · cases h1 : smallB c with
      | true => rw [tok_name h34 h1]; exact takeWhile_pos h1
      | false =>
        by_cases h48 : c.toNat = 48
        · rw [tok_zero h34 h1 h48]; exact Nat.le_refl _
        · cases h2 : digitB c with
          | true =>
            rw [tok_digits h34 h1 h48 h2]
            show 1 ≤ tenDigits (9 + 1) (c :: l)
            rw [tenDigits, if_pos h2]
            omega
          | false =>
            by_cases h4 : (c :: l).take 2 = [85, 43]
            · rw [tok_rune h34 h1 h48 h2 h4]; show 1 ≤ 2 + _; omega
            · by_cases h5 : (c :: l).take 2 = [46, 46]
              · rw [tok_to h34 h1 h48 h2 h4 h5]; show 1 ≤ 2; omega
              · by_cases h6 : c.toNat = 123 ∨ c.toNat = 125 ∨ c.toNat = 43 ∨ c.toNat = 61
                · rw [tok_sign h34 h1 h48 h2 h4 h5 h6]; show 1 ≤ 1; omega
                · rw [tok_none h34 h1 h48 h2 h4 h5 h6] at h; exact absurd h (by decide)
theorem strm_fuel : ∀ (n : Nat) (l : List UInt8) (p f g : Nat), l.length ≤ n → l.length + 1 ≤ f → l.length + 1 ≤ g → strm f l p = strm g l p := by
  intro n
  induction n with
  | zero =>
    intro l p f g h hf hg
    obtain ⟨f, rfl⟩ : ∃ k, f = k + 1 := ⟨f - 1, by omega⟩
    obtain ⟨g, rfl⟩ : ∃ k, g = k + 1 := ⟨g - 1, by omega⟩
    have hl : l = [] := List.length_eq_zero_iff.1 (by omega)
    subst hl
    rfl
  | succ n ih =>
    intro l p f g h hf hg
    obtain ⟨f, rfl⟩ : ∃ k, f = k + 1 := ⟨f - 1, by omega⟩
    obtain ⟨g, rfl⟩ : ∃ k, g = k + 1 := ⟨g - 1, by omega⟩
    unfold strm
    simp only
    congr 1
    split
    · rename_i h5
      have hp := tokL_pos _ h5
      have hd : (l.drop (skipN false l)) ≠ [] := hp.2
      have hlen : (l.drop (skipN false l + (tokL (l.drop (skipN false l))).2.1)).length < l.length ∨ l.length = 0 := by
        rw [List.length_drop]
        omega
      have h0 : 0 < l.length := by
        rcases Nat.eq_zero_or_pos l.length with h0 | h0
        · rw [List.length_eq_zero_iff.1 h0] at hd
          simp at hd
        · exact h0
      exact ih _ _ f g (by omega) (by omega) (by omega)
    · rfl
/-- The next token and where it stands. -/
def tokAt (l : List UInt8) (p : Nat) : Tok := ⟨(tokL (l.drop (p + skipN false (l.drop p)))).1, p + skipN false (l.drop p), (tokL (l.drop (p + skipN false (l.drop p)))).2.2⟩
def tokEnd (l : List UInt8) (p : Nat) : Nat := p + skipN false (l.drop p) + (tokL (l.drop (p + skipN false (l.drop p)))).2.1
theorem rest_eq (l : List UInt8) (p : Nat) : rest l p = tokAt l p :: (if (tokAt l p).k ≤ 5 then rest l (tokEnd l p) else []) := by
  unfold rest
  rw [strm]
  simp only [List.drop_drop]
  unfold tokAt tokEnd
  simp only
  congr 1
  split
  · rename_i h5
    have hp := tokL_pos _ h5
    have h0 : 0 < l.length := by
      rcases Nat.eq_zero_or_pos l.length with h0 | h0
      · have := hp.2
        rw [List.length_eq_zero_iff.1 h0] at this
        simp at this
      · exact h0
    have hlt : p + skipN false (l.drop p) < l.length := by
      rcases Nat.lt_or_ge (p + skipN false (l.drop p)) l.length with hh | hh
      · exact hh
      · exact absurd (List.drop_of_length_le hh) hp.2
    rw [← Nat.add_assoc]
    refine strm_fuel l.length _ _ _ _ ?_ ?_ ?_
    · rw [List.length_drop]; omega
    · rw [List.length_drop]; omega
    · rw [List.length_drop]; omega
  · rfl
/-- The values of a parser's lists. -/
structure DV where
  M : Value
  W0 : Value
  M0 : Value
  A : Value
  B : Value
  C : Value
def PZ.dv (z : PZ) : DV := ⟨z.M, z.W0, z.M0, z.A, z.B, z.C⟩
/-- What a parser holds says how far it is. -/
def PRel (src : ByteArray) (st : PS) (z : PZ) : Prop :=
  z.src = src ∧ match st with
  | (_, []) => False
  | (false, t :: ts) => z.k = t.k ∧ z.t = t.at' ∧ z.s = textOf t.s ∧ z.why = 0 ∧ z.at' = 0 ∧ z.p ≤ src.size ∧ ts = (if t.k ≤ 5 then rest (tl src) z.p else [])
  | (true, t :: _) => z.k = t.k ∧ z.t = t.at' ∧ z.s = textOf t.s ∧ (z.at', z.why) = refT src.size t ∧ z.p ≤ src.size
def PX (w : World) (g : Nat) (src : ByteArray) (st : PS) (d : DV) : Prop := ∃ z, PB w g z ∧ PRel src st z ∧ z.dv = d
theorem PX.below {w w' : World} {g B : Nat} {src : ByteArray} {st : PS} {d : DV} (h : PX w g src st d) (hb : Below B w w') (hg : g < B) : PX w' g src st d := by
  obtain ⟨z, h1, h2⟩ := h
  exact ⟨z, h1.below hb hg, h2⟩
theorem PX.lt {w : World} {g : Nat} {src : ByteArray} {st : PS} {d : DV} (h : PX w g src st d) : g < w.heap.size := by
  obtain ⟨z, h1, h2⟩ := h
  exact h1.lt
def mW (k : Nat) (ws : List ByteArray) (t : Tok) : Bool := t.k == k && (ws.isEmpty || containsB ws (textOf t.s))
theorem refT_why (n : Nat) (t : Tok) : (refT n t).2 ≠ 0 := by
  unfold refT
  split <;> simp
set_option maxHeartbeats 4000000 in
theorem meets_any (g : Nat) (src : ByteArray) (st : PS) (d : DV) (k : Nat) (a : Option Addr) (c : Nat) (ws : List ByteArray) (w : World) (h : PX w g src st d) (hw : WSP w a ws) (hn : ws.length ≤ 1000) :
    Calls Try.prog 69 #[.pointer (some ⟨g, 0, none⟩), .int .i64 (k : Nat), .slice a ws.length c] w fun e w' => e = .returned (.bool (meetP (mW k ws) st)) ∧ w' = w := by
  obtain ⟨z, hP, ⟨hsrc, hrel⟩, hd⟩ := h
  obtain ⟨bad, ts⟩ := st
  cases ts with
  | nil => cases bad <;> exact hrel.elim
  | cons t ts =>
    have c11 := hP.c11
    have c2 := hP.c2
    have c4 := hP.c4
    have HC := contains_any a c ws (textOf t.s) w hw hn
    have hnl : (ws.length == 0) = ws.isEmpty := by cases ws <;> rfl
    cases bad with
    | true =>
      obtain ⟨hk, ht, hs, hr, -⟩ := hrel
      have hwhy : ((z.why : Int) == 0) = false := by
        have h1 := refT_why src.size t
        rw [← hr] at h1
        have h2 : z.why ≠ 0 := h1
        simp
        omega
      show Calls _ _ _ _ fun e w' => e = .returned (.bool false) ∧ w' = w
      generalize z.why = wy at *
      clear hk ht hs hr hP hd hnl HC c2 c4
      go_enter Try.func69, Try.ntmps69
      go_wp2_with fail
      go_ret
      exact ⟨rfl, rfl⟩
    | false =>
      obtain ⟨hk, ht, hs, hwy, -⟩ := hrel
      rw [hwy] at c11
      rw [hk] at c2
      rw [hs] at c4
      show Calls _ _ _ _ fun e w' => e = .returned (.bool (mW k ws t)) ∧ w' = w
      by_cases hkk : t.k = k
      · have hke : ((t.k : Int) == (k : Int)) = true := by simp [hkk]
        have HM : Hid (mW k ws t = (ws.isEmpty || containsB ws (textOf t.s))) := Lib.hid (by unfold mW; rw [hkk]; simp)
        generalize t.k = tk at *
        obtain ⟨b, hb⟩ : ∃ b, b = containsB ws (textOf t.s) := ⟨_, rfl⟩
        rw [← hb] at HC HM
        obtain ⟨txt, htx⟩ : ∃ x, x = textOf t.s := ⟨_, rfl⟩
        rw [← htx] at c4 HC
        by_cases h0 : ws.length = 0
        · have hwn : ws = [] := List.length_eq_zero_iff.1 h0
          subst hwn
          have HM2 : Hid (mW k [] t = true) := Lib.hid (by rw [HM.out]; rfl)
          rw [HM2.out]
          rw [show ([] : List ByteArray).length = 0 from rfl]
          clear hkk hk ht hs hwy hP hd hb htx HC hnl h0
          go_enter Try.func69, Try.ntmps69
          go_wp2_with fail
          go_ret
          exact ⟨rfl, rfl⟩
        · have hne : ((ws.length : Int) == 0) = false := beq_eq_false_iff_ne.2 (by omega)
          have HM2 : Hid (mW k ws t = b) := Lib.hid (by rw [HM.out, ← hnl]; simp [h0])
          rw [HM2.out]
          obtain ⟨n, hnn⟩ : ∃ n, n = ws.length := ⟨_, rfl⟩
          rw [← hnn] at hne HC ⊢
          clear hkk hk ht hs hwy hP hd hb htx hnl h0 hnn
          go_enter Try.func69, Try.ntmps69
          go_wp2_with fail
          refine HC.mono ?_
          rintro e w1 ⟨rfl, he⟩
          obtain rfl := he.symm
          go_wp2_with fail
          go_ret
          exact ⟨rfl, rfl⟩
      · have hke : ((t.k : Int) == (k : Int)) = false := beq_eq_false_iff_ne.2 (fun e => hkk (Int.ofNat.inj e))
        have HM : Hid (mW k ws t = false) := Lib.hid (by unfold mW; rw [show (t.k == k) = false by simpa using hkk]; rfl)
        rw [HM.out]
        generalize t.k = tk at *
        clear hkk hk ht hs hwy hP hd hnl HC c4
        go_enter Try.func69, Try.ntmps69
        go_wp2_with fail
        go_ret
        exact ⟨rfl, rfl⟩
theorem prefuse_any (g : Nat) (z : PZ) (p y : Nat) (w : World) (h : PB w g z) :
    Calls Try.prog 46 #[.pointer (some ⟨g, 0, none⟩), .int .i64 (p : Nat), .int .i64 (y : Nat)] w fun e w' => e = .returned (.tuple #[]) ∧ PB w' g { z with at' := p, why := y } ∧ But g w.heap.size w w' := by
  have c11 := h.c11
  have c12 := h.c12
  have f0 := fun j => h.free j
  have h1 := h.setAt p
  have h2 := h1.setWhy y
  have HH := Lib.hid h2
  clear h h1 h2
  go_enter Try.func46, Try.ntmps46
  go_wp2_with fail
  refine bodyPost_end (results_none rfl _ _ _) rfl ?_
  exact ⟨rfl, HH.out, ((But.refl g w.heap.size w).setCell _ _).setCell _ _⟩
end Go.Proofs.Ytonbfcpbgkpbaaa
