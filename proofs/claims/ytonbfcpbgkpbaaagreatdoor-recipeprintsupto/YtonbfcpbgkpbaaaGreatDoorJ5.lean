import Derived.Test.YtonbfcpbgkpbaaaGreatDoorJ4
import Derived.Deep.DeepCutAuto
import Derived.Test.YtonbfcpbgkpbaaaGreatDoorJ1
import Derived.Test.YtonbfcpbgkpbaaaGreatDoorJ2
import Derived.Deep.AppendSrc
import Derived.Laws.OwnMore
import Derived.Maps.AppendAt
import Derived.Lib.SmallJoins
import Derived.Deep.LoopGhost
section
/- recipe's parser: meets, refuse, take: their contracts. -/
namespace Go.Proofs.YtonbfcpbgkpbaaaGreatDoor
open Go.RowKit Go.Sort Go.Joins
set_option linter.unusedVariables false
set_option linter.unusedSimpArgs false
set_option maxRecDepth 100000
def containsB (ws : List ByteArray) (v : ByteArray) : Bool := ws.any fun x => v.toList == x.toList
set_option maxHeartbeats 1000000 in
theorem index_any (a : Option Addr) (c : Nat) (ws : List ByteArray) (v : ByteArray) (w : World) (h : WSP w a ws) (hn : ws.length ≤ 1000) :
    Calls Tryz.prog 107 #[.slice a ws.length c, .string v] w fun e w' => ∃ i : Int, e = .returned (.int .i64 i) ∧ (0 ≤ i ↔ containsB ws v = true) ∧ w' = w := by
  obtain ⟨n, hnn⟩ : ∃ n, n = ws.length := ⟨_, rfl⟩
  have HN := Lib.hid hnn
  rw [← hnn] at hn ⊢
  clear hnn
  go_enter Tryz.func107, Tryz.ntmps107
  go_wp2
  go_loop [8] (fun i => ∃ k : Nat, k ≤ n ∧ i = .int .i64 (k : Nat) ∧ ∀ j x, j < k → ws[j]? = some x → (v.toList == x.toList) = false) (fun i => n - (intOf i).toNat)
  case atStart => exact ⟨0, Nat.zero_le _, rfl, fun j x hj => by omega⟩
  case round =>
    obtain ⟨k, hk, rfl, hno⟩ := hrel
    have HNO := Lib.hid hno
    clear hno
    by_cases hlt : k < n
    · have hkl : k < ws.length := by rw [← HN.out]; exact hlt
      have hnil : ws ≠ [] := fun e => by rw [e] at hkl; simp at hkl
      rcases h with h | ⟨b, off, rfl, hc⟩
      · exact absurd h hnil
      obtain ⟨x, hx⟩ : ∃ x, ws[k]? = some x := ⟨ws[k], List.getElem?_eq_getElem hkl⟩
      have ck := hc k x hx
      have HX := Lib.hid hx
      have HC := Lib.hid hc
      clear hc hx hnil hkl
      cases hv : (v.toList == x.toList) with
      | true =>
        go_wp2_with fail
        go_ret
        refine ⟨(k : Nat), rfl, ⟨fun _ => ?_, fun _ => by omega⟩, rfl⟩
        exact List.any_eq_true.2 ⟨x, List.mem_of_getElem? HX.out, hv⟩
      | false =>
        go_wp2_with fail
        go_round
        case rel => exact ⟨k + 1, by omega, by go_num, fun j y hj hy => by
          by_cases hjk : j = k
          · subst hjk
            rw [HX.out] at hy
            cases hy
            exact hv
          · exact HNO.out j y (by omega) hy⟩
        case measure => simp [intOf]; omega
    · have hkn : k = n := by omega
      subst hkn
      go_wp2_with fail
      go_ret
      refine ⟨-1, rfl, ⟨fun h0 => by omega, fun h1 => ?_⟩, rfl⟩
      obtain ⟨x, hx, hv⟩ := List.any_eq_true.1 h1
      obtain ⟨j, hj⟩ := List.getElem?_of_mem hx
      have hjl : j < k := by
        have := (List.getElem?_eq_some_iff.1 hj).1
        rw [← HN.out] at this
        exact this
      have h3 := HNO.out j x hjl hj
      rw [hv] at h3
      cases h3
theorem contains_any (a : Option Addr) (c : Nat) (ws : List ByteArray) (v : ByteArray) (w : World) (h : WSP w a ws) (hn : ws.length ≤ 1000) :
    Calls Tryz.prog 99 #[.slice a ws.length c, .string v] w fun e w' => e = .returned (.bool (containsB ws v)) ∧ w' = w := by
  have H := index_any a c ws v w h hn
  obtain ⟨n, hnn⟩ : ∃ n, n = ws.length := ⟨_, rfl⟩
  rw [← hnn] at H ⊢
  clear hnn
  go_enter Tryz.func99, Tryz.ntmps99
  go_wp2_with fail
  refine H.mono ?_
  rintro e w1 ⟨i, rfl, hi, he⟩
  obtain rfl := he.symm
  have HE : Hid (decide (0 ≤ i) = containsB ws v) := Lib.hid (by rw [Bool.eq_iff_iff, decide_eq_true_eq]; exact hi)
  clear hi H
  go_wp2_with fail
  go_ret
  exact ⟨by rw [← HE.out]; rfl, rfl⟩
/-- The tokens from a place on. -/
def rest (l : List UInt8) (p : Nat) : List Tok := strm (l.length + 1) (l.drop p) p
theorem takeWhile_pos {p : UInt8 → Bool} {c : UInt8} {l : List UInt8} (h : p c = true) : 1 ≤ ((c :: l).takeWhile p).length := by
  rw [List.takeWhile_cons_of_pos h]; simp
theorem tokL_pos (l : List UInt8) (h : (tokL l).1 ≤ 5) : 1 ≤ (tokL l).2.1 ∧ l ≠ [] := by
  cases l with
  | nil => exact absurd h (by decide)
  | cons c l =>
    refine ⟨?_, by simp⟩
    by_cases h34 : c.toNat = 34
    · rw [tok_word h34]; show 1 ≤ _ + 1; omega
    · cases h1 : smallB c with
      | true => rw [tok_name h34 h1]; exact takeWhile_pos h1
      | false =>
        by_cases h48 : c.toNat = 48
        · rw [tok_zero h34 h1 h48]; exact Nat.le_refl _
        · cases h2 : digitB c with
          | true =>
            rw [tok_digits h34 h1 h48 h2]
            show 1 ≤ tenDigits (9 + 1) (c :: l)
            rw [tenDigits, if_pos h2]
            omega
          | false =>
            by_cases h4 : (c :: l).take 2 = [85, 43]
            · rw [tok_rune h34 h1 h48 h2 h4]; show 1 ≤ 2 + _; omega
            · by_cases h5 : (c :: l).take 2 = [46, 46]
              · rw [tok_to h34 h1 h48 h2 h4 h5]; show 1 ≤ 2; omega
              · by_cases h6 : c.toNat = 123 ∨ c.toNat = 125 ∨ c.toNat = 43 ∨ c.toNat = 61
                · rw [tok_sign h34 h1 h48 h2 h4 h5 h6]; show 1 ≤ 1; omega
                · rw [tok_none h34 h1 h48 h2 h4 h5 h6] at h; exact absurd h (by decide)
theorem strm_fuel : ∀ (n : Nat) (l : List UInt8) (p f g : Nat), l.length ≤ n → l.length + 1 ≤ f → l.length + 1 ≤ g → strm f l p = strm g l p := by
  intro n
  induction n with
  | zero =>
    intro l p f g h hf hg
    obtain ⟨f, rfl⟩ : ∃ k, f = k + 1 := ⟨f - 1, by omega⟩
    obtain ⟨g, rfl⟩ : ∃ k, g = k + 1 := ⟨g - 1, by omega⟩
    have hl : l = [] := List.length_eq_zero_iff.1 (by omega)
    subst hl
    rfl
  | succ n ih =>
    intro l p f g h hf hg
    obtain ⟨f, rfl⟩ : ∃ k, f = k + 1 := ⟨f - 1, by omega⟩
    obtain ⟨g, rfl⟩ : ∃ k, g = k + 1 := ⟨g - 1, by omega⟩
    unfold strm
    simp only
    congr 1
    split
    · rename_i h5
      have hp := tokL_pos _ h5
      have hd : (l.drop (skipN false l)) ≠ [] := hp.2
      have hlen : (l.drop (skipN false l + (tokL (l.drop (skipN false l))).2.1)).length < l.length ∨ l.length = 0 := by
        rw [List.length_drop]
        omega
      have h0 : 0 < l.length := by
        rcases Nat.eq_zero_or_pos l.length with h0 | h0
        · rw [List.length_eq_zero_iff.1 h0] at hd
          simp at hd
        · exact h0
      exact ih _ _ f g (by omega) (by omega) (by omega)
    · rfl
/-- The next token and where it stands. -/
def tokAt (l : List UInt8) (p : Nat) : Tok := ⟨(tokL (l.drop (p + skipN false (l.drop p)))).1, p + skipN false (l.drop p), (tokL (l.drop (p + skipN false (l.drop p)))).2.2⟩
def tokEnd (l : List UInt8) (p : Nat) : Nat := p + skipN false (l.drop p) + (tokL (l.drop (p + skipN false (l.drop p)))).2.1
theorem rest_eq (l : List UInt8) (p : Nat) : rest l p = tokAt l p :: (if (tokAt l p).k ≤ 5 then rest l (tokEnd l p) else []) := by
  unfold rest
  rw [strm]
  simp only [List.drop_drop]
  unfold tokAt tokEnd
  simp only
  congr 1
  split
  · rename_i h5
    have hp := tokL_pos _ h5
    have h0 : 0 < l.length := by
      rcases Nat.eq_zero_or_pos l.length with h0 | h0
      · have := hp.2
        rw [List.length_eq_zero_iff.1 h0] at this
        simp at this
      · exact h0
    have hlt : p + skipN false (l.drop p) < l.length := by
      rcases Nat.lt_or_ge (p + skipN false (l.drop p)) l.length with hh | hh
      · exact hh
      · exact absurd (List.drop_of_length_le hh) hp.2
    rw [← Nat.add_assoc]
    refine strm_fuel l.length _ _ _ _ ?_ ?_ ?_
    · rw [List.length_drop]; omega
    · rw [List.length_drop]; omega
    · rw [List.length_drop]; omega
  · rfl
/-- The values of a parser's lists. -/
structure DV where
  M : Value
  W0 : Value
  M0 : Value
  A : Value
  B : Value
  C : Value
def PZ.dv (z : PZ) : DV := ⟨z.M, z.W0, z.M0, z.A, z.B, z.C⟩
/-- What a parser holds says how far it is. -/
def PRel (src : ByteArray) (st : PS) (z : PZ) : Prop :=
  z.src = src ∧ match st with
  | (_, []) => False
  | (false, t :: ts) => z.k = t.k ∧ z.t = t.at' ∧ z.s = textOf t.s ∧ z.why = 0 ∧ z.at' = 0 ∧ z.p ≤ src.size ∧ ts = (if t.k ≤ 5 then rest (tl src) z.p else [])
  | (true, t :: _) => z.k = t.k ∧ z.t = t.at' ∧ z.s = textOf t.s ∧ (z.at', z.why) = refT src.size t ∧ z.p ≤ src.size
def PX (w : World) (g : Nat) (src : ByteArray) (st : PS) (d : DV) : Prop := ∃ z, PB w g z ∧ PRel src st z ∧ z.dv = d
theorem PX.below {w w' : World} {g B : Nat} {src : ByteArray} {st : PS} {d : DV} (h : PX w g src st d) (hb : Below B w w') (hg : g < B) : PX w' g src st d := by
  obtain ⟨z, h1, h2⟩ := h
  exact ⟨z, h1.below hb hg, h2⟩
theorem PX.lt {w : World} {g : Nat} {src : ByteArray} {st : PS} {d : DV} (h : PX w g src st d) : g < w.heap.size := by
  obtain ⟨z, h1, h2⟩ := h
  exact h1.lt
def mW (k : Nat) (ws : List ByteArray) (t : Tok) : Bool := t.k == k && (ws.isEmpty || containsB ws (textOf t.s))
theorem refT_why (n : Nat) (t : Tok) : (refT n t).2 ≠ 0 := by
  unfold refT
  split <;> simp
set_option maxHeartbeats 4000000 in
theorem meets_any (g : Nat) (src : ByteArray) (st : PS) (d : DV) (k : Nat) (a : Option Addr) (c : Nat) (ws : List ByteArray) (w : World) (h : PX w g src st d) (hw : WSP w a ws) (hn : ws.length ≤ 1000) :
    Calls Tryz.prog 85 #[.pointer (some ⟨g, 0, none⟩), .int .i64 (k : Nat), .slice a ws.length c] w fun e w' => e = .returned (.bool (meetP (mW k ws) st)) ∧ w' = w := by
  obtain ⟨z, hP, ⟨hsrc, hrel⟩, hd⟩ := h
  obtain ⟨bad, ts⟩ := st
  cases ts with
  | nil => cases bad <;> exact hrel.elim
  | cons t ts =>
    have c11 := hP.c11
    have c2 := hP.c2
    have c4 := hP.c4
    have HC := contains_any a c ws (textOf t.s) w hw hn
    have hnl : (ws.length == 0) = ws.isEmpty := by cases ws <;> rfl
    cases bad with
    | true =>
      obtain ⟨hk, ht, hs, hr, -⟩ := hrel
      have hwhy : ((z.why : Int) == 0) = false := by
        have h1 := refT_why src.size t
        rw [← hr] at h1
        have h2 : z.why ≠ 0 := h1
        simp
        omega
      show Calls _ _ _ _ fun e w' => e = .returned (.bool false) ∧ w' = w
      generalize z.why = wy at *
      clear hk ht hs hr hP hd hnl HC c2 c4
      go_enter Tryz.func85, Tryz.ntmps85
      go_wp2_with fail
      go_ret
      exact ⟨rfl, rfl⟩
    | false =>
      obtain ⟨hk, ht, hs, hwy, -⟩ := hrel
      rw [hwy] at c11
      rw [hk] at c2
      rw [hs] at c4
      show Calls _ _ _ _ fun e w' => e = .returned (.bool (mW k ws t)) ∧ w' = w
      by_cases hkk : t.k = k
      · have hke : ((t.k : Int) == (k : Int)) = true := by simp [hkk]
        have HM : Hid (mW k ws t = (ws.isEmpty || containsB ws (textOf t.s))) := Lib.hid (by unfold mW; rw [hkk]; simp)
        generalize t.k = tk at *
        obtain ⟨b, hb⟩ : ∃ b, b = containsB ws (textOf t.s) := ⟨_, rfl⟩
        rw [← hb] at HC HM
        obtain ⟨txt, htx⟩ : ∃ x, x = textOf t.s := ⟨_, rfl⟩
        rw [← htx] at c4 HC
        by_cases h0 : ws.length = 0
        · have hwn : ws = [] := List.length_eq_zero_iff.1 h0
          subst hwn
          have HM2 : Hid (mW k [] t = true) := Lib.hid (by rw [HM.out]; rfl)
          rw [HM2.out]
          rw [show ([] : List ByteArray).length = 0 from rfl]
          clear hkk hk ht hs hwy hP hd hb htx HC hnl h0
          go_enter Tryz.func85, Tryz.ntmps85
          go_wp2_with fail
          go_ret
          exact ⟨rfl, rfl⟩
        · have hne : ((ws.length : Int) == 0) = false := beq_eq_false_iff_ne.2 (by omega)
          have HM2 : Hid (mW k ws t = b) := Lib.hid (by rw [HM.out, ← hnl]; simp [h0])
          rw [HM2.out]
          obtain ⟨n, hnn⟩ : ∃ n, n = ws.length := ⟨_, rfl⟩
          rw [← hnn] at hne HC ⊢
          clear hkk hk ht hs hwy hP hd hb htx hnl h0 hnn
          go_enter Tryz.func85, Tryz.ntmps85
          go_wp2_with fail
          refine HC.mono ?_
          rintro e w1 ⟨rfl, he⟩
          obtain rfl := he.symm
          go_wp2_with fail
          go_ret
          exact ⟨rfl, rfl⟩
      · have hke : ((t.k : Int) == (k : Int)) = false := beq_eq_false_iff_ne.2 (fun e => hkk (Int.ofNat.inj e))
        have HM : Hid (mW k ws t = false) := Lib.hid (by unfold mW; rw [show (t.k == k) = false by simpa using hkk]; rfl)
        rw [HM.out]
        generalize t.k = tk at *
        clear hkk hk ht hs hwy hP hd hnl HC c4
        go_enter Tryz.func85, Tryz.ntmps85
        go_wp2_with fail
        go_ret
        exact ⟨rfl, rfl⟩
theorem prefuse_any (g : Nat) (z : PZ) (p y : Nat) (w : World) (h : PB w g z) :
    Calls Tryz.prog 59 #[.pointer (some ⟨g, 0, none⟩), .int .i64 (p : Nat), .int .i64 (y : Nat)] w fun e w' => e = .returned (.tuple #[]) ∧ PB w' g { z with at' := p, why := y } ∧ But g w.heap.size w w' := by
  have c11 := h.c11
  have c12 := h.c12
  have f0 := fun j => h.free j
  have h1 := h.setAt p
  have h2 := h1.setWhy y
  have HH := Lib.hid h2
  clear h h1 h2
  go_enter Tryz.func59, Tryz.ntmps59
  go_wp2_with fail
  refine bodyPost_end (results_none rfl _ _ _) rfl ?_
  exact ⟨rfl, HH.out, ((But.refl g w.heap.size w).setCell _ _).setCell _ _⟩
end Go.Proofs.YtonbfcpbgkpbaaaGreatDoor
end
section
/- recipe's parser.take: its contract. -/
namespace Go.Proofs.YtonbfcpbgkpbaaaGreatDoor
open Go.RowKit Go.Sort Go.Joins
set_option linter.unusedVariables false
set_option linter.unusedSimpArgs false
set_option maxRecDepth 100000
def tokV (t : Tok) : Value := .agg #[.int .i64 (t.k : Nat), .int .i64 (t.at' : Nat), .string (textOf t.s)]
def TakePost (w : World) (g : Nat) (src : ByteArray) (d : DV) (r : Tok × PS) (e : Ending) (w' : World) : Prop :=
  e = .returned (tokV r.1) ∧ PX w' g src r.2 d ∧ But g w.heap.size w w'
theorem PB.three' {w : World} {g : Nat} {z : PZ} (h : PB w g z) (k t : Nat) (s : ByteArray) : PB (((w.setCell ⟨g, 2, none⟩ (.int .i64 (k : Nat))).setCell ⟨g, 3, none⟩ (.int .i64 (t : Nat))).setCell ⟨g, 4, none⟩ (.string s)) g { z with k := k, t := t, s := s } := ((h.setK k).setT t).setS s
theorem Blk0.other {w : World} {z b o : Nat} {k a : Int} {s : ByteArray} (h : Blk0 w z k a s) (hb : z ≠ b) (v : Value) : Blk0 (w.setCell ⟨b, o, none⟩ v) z k a s := (Below.heap_setCell _ _ _ _ hb).trans h
set_option maxHeartbeats 8000000 in
/-- What is taken is what stands next. -/
theorem take_yes (g : Nat) (src : ByteArray) (t : Tok) (ts : List Tok) (d : DV) (k : Nat) (a : Option Addr) (c : Nat) (ws : List ByteArray) (w : World) (h : PX w g src (false, t :: ts) d) (hw : WSP w a ws) (hn : ws.length ≤ 1000) (hs : src.size ≤ 4194304) (hk5 : t.k ≤ 5) (hm : mW k ws t = true) :
    Calls Tryz.prog 55 #[.pointer (some ⟨g, 0, none⟩), .int .i64 (k : Nat), .slice a ws.length c] w (TakePost w g src d (t, (false, ts))) := by
  obtain ⟨z, hP, ⟨hsrc, hk, ht, hss, hwy, hat, hp, hts⟩, hd⟩ := h
  rw [if_pos hk5] at hts
  have hlt := hP.lt
  have c2 := hP.c2
  have c3 := hP.c3
  have c4 := hP.c4
  rw [hk] at c2
  rw [ht] at c3
  rw [hss] at c4
  have hPX : PX w g src (false, t :: ts) d := ⟨z, hP, ⟨hsrc, hk, ht, hss, hwy, hat, hp, by rw [if_pos hk5]; exact hts⟩, hd⟩
  have b1 := box_below w (.cells #[.int .i64 0, .int .i64 0, .string ⟨#[]⟩] 92)
  have hX : (w.alloc (.cells #[.int .i64 0, .int .i64 0, .string ⟨#[]⟩] 92)).heap[w.heap.size]? = some (.cells #[.int .i64 0, .int .i64 0, .string ⟨#[]⟩] 92 (0, 0)) := heap_alloc_new w _
  have e1 : (w.alloc (.cells #[.int .i64 0, .int .i64 0, .string ⟨#[]⟩] 92)).heap.size = w.heap.size + 1 := by simp
  obtain ⟨U, hU⟩ : ∃ U, U = w.alloc (.cells #[.int .i64 0, .int .i64 0, .string ⟨#[]⟩] 92) := ⟨_, rfl⟩
  rw [← hU] at b1 hX e1
  have b2 := box_below U (.cells #[.int .i64 (t.k : Nat), .int .i64 (t.at' : Nat), .string (textOf t.s)] 92)
  have hY : (U.alloc (.cells #[.int .i64 (t.k : Nat), .int .i64 (t.at' : Nat), .string (textOf t.s)] 92)).heap[U.heap.size]? = some (.cells #[.int .i64 (t.k : Nat), .int .i64 (t.at' : Nat), .string (textOf t.s)] 92 (0, 0)) := heap_alloc_new U _
  have e2 : (U.alloc (.cells #[.int .i64 (t.k : Nat), .int .i64 (t.at' : Nat), .string (textOf t.s)] 92)).heap.size = w.heap.size + 2 := by simp [e1]
  rw [e1] at hY
  obtain ⟨V, hV⟩ : ∃ V, V = U.alloc (.cells #[.int .i64 (t.k : Nat), .int .i64 (t.at' : Nat), .string (textOf t.s)] 92) := ⟨_, rfl⟩
  rw [← hV] at b2 hY e2
  have hX2 : Blk0 V w.heap.size 0 0 ⟨#[]⟩ := (b2.block w.heap.size (by omega)).trans hX
  have bV := b1.trans (b2.mono b1.size)
  have HMT := meets_any g src (false, t :: ts) d k a c ws V (hPX.below bV hlt) (hw.below bV) hn
  have HNX := next_any g z V (hP.below bV hlt) (by rw [hsrc]; exact hp) (by rw [hsrc]; exact hs)
  rw [show meetP (mW k ws) (false, t :: ts) = mW k ws t from rfl, hm] at HMT
  obtain ⟨n, hnn⟩ : ∃ n, n = ws.length := ⟨_, rfl⟩
  rw [← hnn] at HMT ⊢
  obtain ⟨q, hq⟩ : ∃ q, q = z.p + skipN false ((tl z.src).drop z.p) := ⟨_, rfl⟩
  rw [← hq] at HNX
  obtain ⟨R, hR⟩ : ∃ R, R = tokL ((tl z.src).drop q) := ⟨_, rfl⟩
  rw [← hR] at HNX
  have HU := Lib.hid hU
  have HV := Lib.hid hV
  have HBV := Lib.hid bV
  have HE2 := Lib.hid e2
  have HX := Lib.hid hX2
  have HY := Lib.hid hY
  have HD := Lib.hid hd
  have HSRC := Lib.hid hsrc
  have HTS := Lib.hid hts
  have HWY := Lib.hid hwy
  have HAT := Lib.hid hat
  have HQ := Lib.hid hq
  have HRR := Lib.hid hR
  obtain ⟨tk, htk⟩ : ∃ x, x = t.k := ⟨_, rfl⟩
  obtain ⟨ta, hta⟩ : ∃ x, x = t.at' := ⟨_, rfl⟩
  obtain ⟨tx, htx⟩ : ∃ x, x = textOf t.s := ⟨_, rfl⟩
  have HTV : Hid (tokV t = .agg #[.int .i64 (tk : Nat), .int .i64 (ta : Nat), .string tx]) := Lib.hid (by unfold tokV; rw [htk, hta, htx])
  rw [← htk] at c2
  rw [← hta] at c3
  rw [← htx] at c4
  rw [← htk, ← hta, ← htx] at HV HY
  have c2' := cell_alloc_s c2
  have c3' := cell_alloc_s c3
  have c4' := cell_alloc_s c4
  clear hU hV bV b1 b2 e1 e2 hX hX2 hY hd hsrc hts hwy hat hq hR htk hta htx hP hPX hk ht hss hm hnn hw hn
  go_enter Tryz.func55, Tryz.ntmps55
  go_wp2_with fail
  have e2 : (w.alloc (.cells #[.int .i64 0, .int .i64 0, .string ⟨#[]⟩] 92)).alloc (.cells #[.int .i64 (tk : Nat), .int .i64 (ta : Nat), .string tx] 92) = V := by rw [HV.out, HU.out]
  rw [e2]
  clear e2 c2 c3 c4 c2' c3' c4'
  refine HMT.mono ?_
  rintro e w1 ⟨rfl, he⟩
  obtain rfl := he.symm
  clear HMT
  go_wp2_with fail
  refine HNX.mono ?_
  rintro e w2 ⟨p, rfl, hp5, hps, hP2, hb2⟩
  have x2 := hP2.c2
  have x3 := hP2.c3
  have x4 := hP2.c4
  have fg := fun j => hP2.free j
  have hsz := HE2.out
  have hX3 : Blk0 w2 w.heap.size 0 0 ⟨#[]⟩ := (hb2.2.2.2.2 _ (by omega) (by omega)).trans HX.out
  have hY3 : Blk0 w2 (w.heap.size + 1) (tk : Nat) (ta : Nat) tx := (hb2.2.2.2.2 _ (by omega) (by omega)).trans HY.out
  have hP3 := hP2.three' R.1 q (textOf R.2.2)
  have hX4 := ((hX3.other (b := g) (o := 2) (by omega) (.int .i64 (R.1 : Nat))).other (b := g) (o := 3) (by omega) (.int .i64 (q : Nat))).other (b := g) (o := 4) (by omega) (.string (textOf R.2.2))
  have hY4 := ((hY3.other (b := g) (o := 2) (by omega) (.int .i64 (R.1 : Nat))).other (b := g) (o := 3) (by omega) (.int .i64 (q : Nat))).other (b := g) (o := 4) (by omega) (.string (textOf R.2.2))
  have hB4 := (((((But.of_below (b := g) HBV.out).trans (hb2.mono (by omega))).setCell 2 (.int .i64 (R.1 : Nat))).setCell 3 (.int .i64 (q : Nat))).setCell 4 (.string (textOf R.2.2)))
  have HP5 := Lib.hid hp5
  have HP3 := Lib.hid hP3
  have HX4 := Lib.hid hX4
  have HY4 := Lib.hid hY4
  have HB4 := Lib.hid hB4
  clear HNX hP2 hb2 hX3 hY3 hP3 hX4 hY4 hB4 hp5 hsz
  go_upto_region 5 with fail
  obtain ⟨w3, hw3⟩ : ∃ w3, w3 = ((w2.setCell ⟨g, 2, none⟩ (.int .i64 (R.1 : Nat))).setCell ⟨g, 3, none⟩ (.int .i64 (q : Nat))).setCell ⟨g, 4, none⟩ (.string (textOf R.2.2)) := ⟨_, rfl⟩
  rw [← hw3] at HP3 HX4 HY4 HB4 ⊢
  clear hw3 x2 x3 x4 fg
  have y0 := cell_of_block HY4.out 0
  have y1 := cell_of_block HY4.out 1
  have y2 := cell_of_block HY4.out 2
  have x0 := cell_of_block HX4.out 0
  have x1 := cell_of_block HX4.out 1
  have x2 := cell_of_block HX4.out 2
  have f0 := fun j => unfrozen_of_block HX4.out j
  have HZ3 := Lib.hid (tok_store HX4.out (tk : Nat) (ta : Nat) tx)
  have HP6 := Lib.hid (HP3.out.three (z := w.heap.size) (by omega) (.int .i64 (tk : Nat)) (.int .i64 (ta : Nat)) (.string tx))
  have HB6 := Lib.hid (HB4.out.three (z := w.heap.size) (Nat.le_refl _) (.int .i64 (tk : Nat)) (.int .i64 (ta : Nat)) (.string tx))
  go_wp2_with fail
  obtain ⟨WF, hWF⟩ : ∃ WF, WF = (((w3.setCell ⟨w.heap.size, 0, none⟩ (.int .i64 (tk : Nat))).setCell ⟨w.heap.size, 1, none⟩ (.int .i64 (ta : Nat))).setCell ⟨w.heap.size, 2, none⟩ (.string tx)) := ⟨_, rfl⟩
  rw [← hWF] at HZ3 HP6 HB6 ⊢
  have u0 := cell_of_block HZ3.out 0
  have u1 := cell_of_block HZ3.out 1
  have u2 := cell_of_block HZ3.out 2
  refine bodyPost_ret (v := .agg #[.int .i64 (tk : Nat), .int .i64 (ta : Nat), .string tx]) (by simp [results, Tryz.results55, go_sem, u0, u1, u2]) rfl ⟨by rw [HTV.out], ⟨_, HP6.out, ?_, ?_⟩, HB6.out⟩
  · have hz := HSRC.out
    refine ⟨hz, ?_⟩
    rw [HTS.out, rest_eq]
    have hta : tokAt (tl src) z.p = ⟨R.1, q, R.2.2⟩ := by unfold tokAt; rw [HRR.out, HQ.out, hz]
    have hte : R.1 ≤ 5 → tokEnd (tl src) z.p = p := fun h => by rw [HP5.out h, HRR.out, HQ.out]; unfold tokEnd; rw [hz]
    rw [hta]
    refine ⟨rfl, rfl, rfl, HWY.out, HAT.out, (by rw [hz] at hps; exact hps), ?_⟩
    show (if R.1 ≤ 5 then _ else _) = (if R.1 ≤ 5 then _ else _)
    by_cases h5 : R.1 ≤ 5
    · rw [if_pos h5, if_pos h5, hte h5]
    · rw [if_neg h5, if_neg h5]
  · exact HD.out
end Go.Proofs.YtonbfcpbgkpbaaaGreatDoor
end
section
/- recipe's parser.take: its contract. -/
namespace Go.Proofs.YtonbfcpbgkpbaaaGreatDoor
open Go.RowKit Go.Sort Go.Joins
set_option linter.unusedVariables false
set_option linter.unusedSimpArgs false
set_option maxRecDepth 100000
set_option maxHeartbeats 8000000 in
/-- What may not stand there is refused. -/
theorem take_no (g : Nat) (src : ByteArray) (bad : Bool) (t : Tok) (ts : List Tok) (d : DV) (k : Nat) (a : Option Addr) (c : Nat) (ws : List ByteArray) (w : World) (h : PX w g src (bad, t :: ts) d) (hw : WSP w a ws) (hn : ws.length ≤ 1000) (hs : src.size ≤ 4194304) (hm : meetP (mW k ws) (bad, t :: ts) = false) :
    Calls Tryz.prog 55 #[.pointer (some ⟨g, 0, none⟩), .int .i64 (k : Nat), .slice a ws.length c] w (TakePost w g src d (zeroT, (true, t :: ts))) := by
  have hPX := h
  obtain ⟨z, hP, ⟨hsrc, hrel⟩, hd⟩ := h
  have hcom : z.k = t.k ∧ z.t = t.at' ∧ z.s = textOf t.s ∧ z.p ≤ src.size := by
    cases bad with
    | true => exact ⟨hrel.1, hrel.2.1, hrel.2.2.1, hrel.2.2.2.2⟩
    | false => exact ⟨hrel.1, hrel.2.1, hrel.2.2.1, hrel.2.2.2.2.2.1⟩
  obtain ⟨hk, ht, hss, hp⟩ := hcom
  clear hrel
  have hlt := hP.lt
  have c2 := hP.c2
  have c3 := hP.c3
  have c4 := hP.c4
  rw [hk] at c2
  rw [ht] at c3
  rw [hss] at c4
  have b1 := box_below w (.cells #[.int .i64 0, .int .i64 0, .string ⟨#[]⟩] 92)
  have hX : (w.alloc (.cells #[.int .i64 0, .int .i64 0, .string ⟨#[]⟩] 92)).heap[w.heap.size]? = some (.cells #[.int .i64 0, .int .i64 0, .string ⟨#[]⟩] 92 (0, 0)) := heap_alloc_new w _
  have e1 : (w.alloc (.cells #[.int .i64 0, .int .i64 0, .string ⟨#[]⟩] 92)).heap.size = w.heap.size + 1 := by simp
  obtain ⟨U, hU⟩ : ∃ U, U = w.alloc (.cells #[.int .i64 0, .int .i64 0, .string ⟨#[]⟩] 92) := ⟨_, rfl⟩
  rw [← hU] at b1 hX e1
  have b2 := box_below U (.cells #[.int .i64 (t.k : Nat), .int .i64 (t.at' : Nat), .string (textOf t.s)] 92)
  have hY : (U.alloc (.cells #[.int .i64 (t.k : Nat), .int .i64 (t.at' : Nat), .string (textOf t.s)] 92)).heap[U.heap.size]? = some (.cells #[.int .i64 (t.k : Nat), .int .i64 (t.at' : Nat), .string (textOf t.s)] 92 (0, 0)) := heap_alloc_new U _
  have e2 : (U.alloc (.cells #[.int .i64 (t.k : Nat), .int .i64 (t.at' : Nat), .string (textOf t.s)] 92)).heap.size = w.heap.size + 2 := by simp [e1]
  rw [e1] at hY
  obtain ⟨V, hV⟩ : ∃ V, V = U.alloc (.cells #[.int .i64 (t.k : Nat), .int .i64 (t.at' : Nat), .string (textOf t.s)] 92) := ⟨_, rfl⟩
  rw [← hV] at b2 hY e2
  have hX2 : Blk0 V w.heap.size 0 0 ⟨#[]⟩ := (b2.block w.heap.size (by omega)).trans hX
  have bV := b1.trans (b2.mono b1.size)
  have HMT := meets_any g src (bad, t :: ts) d k a c ws V (hPX.below bV hlt) (hw.below bV) hn
  rw [hm] at HMT
  have hPV := hP.below bV hlt
  have HRF := fun p y => prefuse_any g z p y V hPV
  obtain ⟨n, hnn⟩ : ∃ n, n = ws.length := ⟨_, rfl⟩
  rw [← hnn] at HMT ⊢
  have hfin : PRel src (true, t :: ts) { z with at' := (refT src.size t).1, why := (refT src.size t).2 } := ⟨hsrc, hk, ht, hss, rfl, hp⟩
  have hrt : refT src.size t = if t.k = 7 ∨ t.k = 8 then (src.size, 31) else (t.at', 30) := rfl
  have c0V := hPV.c0
  rw [hsrc] at c0V
  have HU := Lib.hid hU
  have HV := Lib.hid hV
  have HBV := Lib.hid bV
  have HE2 := Lib.hid e2
  have HX := Lib.hid hX2
  have HY := Lib.hid hY
  have HD := Lib.hid hd
  have HFN := Lib.hid hfin
  obtain ⟨tk, htk⟩ : ∃ x, x = t.k := ⟨_, rfl⟩
  obtain ⟨ta, hta⟩ : ∃ x, x = t.at' := ⟨_, rfl⟩
  obtain ⟨tx, htx⟩ : ∃ x, x = textOf t.s := ⟨_, rfl⟩
  obtain ⟨rt, hrr⟩ : ∃ x, x = refT src.size t := ⟨_, rfl⟩
  rw [← hrr] at hrt HFN
  rw [← htk] at c2 hrt
  rw [← hta] at c3 hrt
  rw [← htx] at c4
  rw [← htk, ← hta, ← htx] at HV HY
  have c2' := cell_alloc_s c2
  have c3' := cell_alloc_s c3
  have c4' := cell_alloc_s c4
  have hY0 := HY.out
  have y0 := cell_of_block hY0 0
  have y1 := cell_of_block hY0 1
  have CV0 := Lib.hid c0V
  have CY0 := Lib.hid y0
  have CY1 := Lib.hid y1
  have HRT := Lib.hid hrt
  have hs9 : src.size ≤ 9223372036854775807 := by omega
  clear hU hV bV b1 b2 e1 e2 hX hX2 hY hd hsrc htk hta htx hP hPX hk ht hss hm hnn hw hn hPV hfin hrr hrt c0V hY0 y0 y1
  go_enter Tryz.func55, Tryz.ntmps55
  go_wp2_with fail
  have e2 : (w.alloc (.cells #[.int .i64 0, .int .i64 0, .string ⟨#[]⟩] 92)).alloc (.cells #[.int .i64 (tk : Nat), .int .i64 (ta : Nat), .string tx] 92) = V := by rw [HV.out, HU.out]
  rw [e2]
  clear e2 c2 c3 c4 c2' c3' c4'
  refine HMT.mono ?_
  rintro e w1 ⟨rfl, he⟩
  obtain rfl := he.symm
  clear HMT
  have y0 := CY0.out
  have y1 := CY1.out
  have c0V := CV0.out
  by_cases h7 : tk = 7
  · have d7 : ((tk : Int) == 7) = true := by simp [h7]
    have hr := HRT.out
    rw [if_pos (.inl h7)] at hr
    have HR := Lib.hid hr
    have HRF := HRF src.size 31
    clear hr h7
    go_wp2_with fail
    refine HRF.mono ?_
    rintro e w2 ⟨rfl, hP2, hb2⟩
    have hsz := HE2.out
    have hX3 : Blk0 w2 w.heap.size 0 0 ⟨#[]⟩ := (hb2.2.2.2.2 _ (by omega) (by omega)).trans HX.out
    have x0 := cell_of_block hX3 0
    have x1 := cell_of_block hX3 1
    have x2 := cell_of_block hX3 2
    have f0 := fun j => unfrozen_of_block hX3 j
    have HZ3 := Lib.hid (tok_store hX3 0 0 ⟨#[]⟩)
    have HP6 := Lib.hid (hP2.three (z := w.heap.size) (by omega) (.int .i64 0) (.int .i64 0) (.string ⟨#[]⟩))
    have HB6 := Lib.hid (((But.of_below (b := g) HBV.out).trans (hb2.mono (by omega))).three (z := w.heap.size) (Nat.le_refl _) (.int .i64 0) (.int .i64 0) (.string ⟨#[]⟩))
    clear HRF hP2 hb2 hX3 hsz
    go_wp2_with fail
    obtain ⟨WF, hWF⟩ : ∃ WF, WF = (((w2.setCell ⟨w.heap.size, 0, none⟩ (.int .i64 0)).setCell ⟨w.heap.size, 1, none⟩ (.int .i64 0)).setCell ⟨w.heap.size, 2, none⟩ (.string ⟨#[]⟩)) := ⟨_, rfl⟩
    rw [← hWF] at HZ3 HP6 HB6 ⊢
    have u0 := cell_of_block HZ3.out 0
    have u1 := cell_of_block HZ3.out 1
    have u2 := cell_of_block HZ3.out 2
    have hfn := HFN.out
    rw [HR.out] at hfn
    exact bodyPost_ret (v := .agg #[.int .i64 0, .int .i64 0, .string ⟨#[]⟩]) (by simp [results, Tryz.results55, go_sem, u0, u1, u2]) rfl ⟨rfl, ⟨_, HP6.out, hfn, HD.out⟩, HB6.out⟩
  · have d7 : ((tk : Int) == 7) = false := by simp; omega
    by_cases h8 : tk = 8
    · have d8 : ((tk : Int) == 8) = true := by simp [h8]
      have hr := HRT.out
      rw [if_pos (.inr h8)] at hr
      have HR := Lib.hid hr
      have HRF := HRF src.size 31
      clear hr h7 h8
      go_wp2_with fail
      refine HRF.mono ?_
      rintro e w2 ⟨rfl, hP2, hb2⟩
      have hsz := HE2.out
      have hX3 : Blk0 w2 w.heap.size 0 0 ⟨#[]⟩ := (hb2.2.2.2.2 _ (by omega) (by omega)).trans HX.out
      have x0 := cell_of_block hX3 0
      have x1 := cell_of_block hX3 1
      have x2 := cell_of_block hX3 2
      have f0 := fun j => unfrozen_of_block hX3 j
      have HZ3 := Lib.hid (tok_store hX3 0 0 ⟨#[]⟩)
      have HP6 := Lib.hid (hP2.three (z := w.heap.size) (by omega) (.int .i64 0) (.int .i64 0) (.string ⟨#[]⟩))
      have HB6 := Lib.hid (((But.of_below (b := g) HBV.out).trans (hb2.mono (by omega))).three (z := w.heap.size) (Nat.le_refl _) (.int .i64 0) (.int .i64 0) (.string ⟨#[]⟩))
      clear HRF hP2 hb2 hX3 hsz
      go_wp2_with fail
      obtain ⟨WF, hWF⟩ : ∃ WF, WF = (((w2.setCell ⟨w.heap.size, 0, none⟩ (.int .i64 0)).setCell ⟨w.heap.size, 1, none⟩ (.int .i64 0)).setCell ⟨w.heap.size, 2, none⟩ (.string ⟨#[]⟩)) := ⟨_, rfl⟩
      rw [← hWF] at HZ3 HP6 HB6 ⊢
      have u0 := cell_of_block HZ3.out 0
      have u1 := cell_of_block HZ3.out 1
      have u2 := cell_of_block HZ3.out 2
      have hfn := HFN.out
      rw [HR.out] at hfn
      exact bodyPost_ret (v := .agg #[.int .i64 0, .int .i64 0, .string ⟨#[]⟩]) (by simp [results, Tryz.results55, go_sem, u0, u1, u2]) rfl ⟨rfl, ⟨_, HP6.out, hfn, HD.out⟩, HB6.out⟩
    · have d8 : ((tk : Int) == 8) = false := by simp; omega
      have hr := HRT.out
      rw [if_neg (by omega)] at hr
      have HR := Lib.hid hr
      have HRF := HRF ta 30
      clear hr h7 h8
      go_wp2_with fail
      refine HRF.mono ?_
      rintro e w2 ⟨rfl, hP2, hb2⟩
      have hsz := HE2.out
      have hX3 : Blk0 w2 w.heap.size 0 0 ⟨#[]⟩ := (hb2.2.2.2.2 _ (by omega) (by omega)).trans HX.out
      have x0 := cell_of_block hX3 0
      have x1 := cell_of_block hX3 1
      have x2 := cell_of_block hX3 2
      have f0 := fun j => unfrozen_of_block hX3 j
      have HZ3 := Lib.hid (tok_store hX3 0 0 ⟨#[]⟩)
      have HP6 := Lib.hid (hP2.three (z := w.heap.size) (by omega) (.int .i64 0) (.int .i64 0) (.string ⟨#[]⟩))
      have HB6 := Lib.hid (((But.of_below (b := g) HBV.out).trans (hb2.mono (by omega))).three (z := w.heap.size) (Nat.le_refl _) (.int .i64 0) (.int .i64 0) (.string ⟨#[]⟩))
      clear HRF hP2 hb2 hX3 hsz
      go_wp2_with fail
      obtain ⟨WF, hWF⟩ : ∃ WF, WF = (((w2.setCell ⟨w.heap.size, 0, none⟩ (.int .i64 0)).setCell ⟨w.heap.size, 1, none⟩ (.int .i64 0)).setCell ⟨w.heap.size, 2, none⟩ (.string ⟨#[]⟩)) := ⟨_, rfl⟩
      rw [← hWF] at HZ3 HP6 HB6 ⊢
      have u0 := cell_of_block HZ3.out 0
      have u1 := cell_of_block HZ3.out 1
      have u2 := cell_of_block HZ3.out 2
      have hfn := HFN.out
      rw [HR.out] at hfn
      exact bodyPost_ret (v := .agg #[.int .i64 0, .int .i64 0, .string ⟨#[]⟩]) (by simp [results, Tryz.results55, go_sem, u0, u1, u2]) rfl ⟨rfl, ⟨_, HP6.out, hfn, HD.out⟩, HB6.out⟩
/-- take: its contract. -/
theorem take_any (g : Nat) (src : ByteArray) (st : PS) (d : DV) (k : Nat) (a : Option Addr) (c : Nat) (ws : List ByteArray) (w : World) (h : PX w g src st d) (hw : WSP w a ws) (hn : ws.length ≤ 1000) (hs : src.size ≤ 4194304) (hk5 : k ≤ 5) :
    Calls Tryz.prog 55 #[.pointer (some ⟨g, 0, none⟩), .int .i64 (k : Nat), .slice a ws.length c] w (TakePost w g src d (takeP (mW k ws) st)) := by
  obtain ⟨bad, ts⟩ := st
  cases ts with
  | nil =>
    obtain ⟨z, hP, ⟨hsrc, hrel⟩, hd⟩ := h
    cases bad <;> exact hrel.elim
  | cons t ts =>
    cases bad with
    | true => exact take_no g src true t ts d k a c ws w h hw hn hs rfl
    | false =>
      show Calls _ _ _ _ (TakePost w g src d (if mW k ws t = true then (t, (false, ts)) else (zeroT, (true, t :: ts))))
      cases hm : mW k ws t with
      | true =>
        rw [if_pos rfl]
        have hkk : t.k = k := by
          unfold mW at hm
          rw [Bool.and_eq_true] at hm
          simpa using hm.1
        exact take_yes g src t ts d k a c ws w h hw hn hs (by omega) hm
      | false =>
        rw [if_neg (by decide)]
        exact take_no g src false t ts d k a c ws w h hw hn hs hm
end Go.Proofs.YtonbfcpbgkpbaaaGreatDoor
end
section
/- Rows of one's own of whatever kind; which block turns when one is lengthened. -/
namespace Go.Proofs.YtonbfcpbgkpbaaaGreatDoor
open Go.RowKit Go.Sort Go.Joins
set_option linter.unusedVariables false
/-- The value v owns the things l, of k cells each, of type T. -/
def OwnG {α : Type} (T : TypeId) (k : Nat) (enc : α → List Value) (w : World) (base : Nat) (v : Value) (l : List α) : Prop :=
  w.ownsRow base T k v l.length (l.flatMap enc)
/-- All old blocks but g and ob stand as they stood. -/
structure Bu (g : Nat) (ob : Option Nat) (B : Nat) (w w' : World) : Prop where
  os : w'.os = w.os
  tape : w'.tape = w.tape
  output : w'.output = w.output
  size : w.heap.size ≤ w'.heap.size
  block : ∀ k, k < B → k ≠ g → some k ≠ ob → w'.heap[k]? = w.heap[k]?
theorem Bu.refl (g : Nat) (ob : Option Nat) (B : Nat) (w : World) : Bu g ob B w w := ⟨rfl, rfl, rfl, Nat.le_refl _, fun _ _ _ _ => rfl⟩
theorem Bu.of_but {g B : Nat} {ob : Option Nat} {w w' : World} (h : But g B w w') : Bu g ob B w w' := ⟨h.1, h.2.1, h.2.2.1, h.2.2.2.1, fun k hk hg _ => h.2.2.2.2 k hk hg⟩
theorem Bu.but {g B : Nat} {w w' : World} (h : Bu g none B w w') : But g B w w' := ⟨h.os, h.tape, h.output, h.size, fun k hk hg => h.block k hk hg (by simp)⟩
theorem Bu.trans {g B : Nat} {ob : Option Nat} {a b c : World} (h : Bu g ob B a b) (h' : Bu g ob B b c) : Bu g ob B a c :=
  ⟨h'.os.trans h.os, h'.tape.trans h.tape, h'.output.trans h.output, Nat.le_trans h.size h'.size, fun k hk hg ho => (h'.block k hk hg ho).trans (h.block k hk hg ho)⟩
theorem Bu.mono {g B B' : Nat} {ob : Option Nat} {a b : World} (h : Bu g ob B a b) (hB : B' ≤ B) : Bu g ob B' a b := ⟨h.os, h.tape, h.output, h.size, fun k hk => h.block k (by omega)⟩
theorem Bu.setCell {g B : Nat} {ob : Option Nat} {a b : World} (h : Bu g ob B a b) (o : Nat) (v : Value) : Bu g ob B a (b.setCell ⟨g, o, none⟩ v) :=
  h.trans (.of_but ((But.refl _ _ _).setCell o v))
/-- Rows that lie apart from what has turned stay. -/
theorem OwnG.bu {α : Type} {T : TypeId} {k : Nat} {enc : α → List Value} {w w' : World} {base g B : Nat} {ob : Option Nat} {v : Value} {l : List α} (h : OwnG T k enc w base v l) (hb : Bu g ob B w w') (hB : w.heap.size ≤ B) (hg : g < base) (ho : ∀ i, v.ownBlock = some i → some i ≠ ob) : OwnG T k enc w' base v l := by
  refine ⟨h.1, ?_⟩
  rcases h.2 with h0 | ⟨b, cap, cur, hv, hbb, hh, r⟩
  · exact .inl h0
  · refine .inr ⟨b, cap, cur, hv, hbb, ?_, r⟩
    rw [hb.block b (Nat.lt_of_lt_of_le (Array.getElem?_eq_some_iff.1 hh).1 hB) (by omega) (ho b (by rw [hv]; rfl))]
    exact hh
theorem OwnG.but {α : Type} {T : TypeId} {k : Nat} {enc : α → List Value} {w w' : World} {base g B : Nat} {v : Value} {l : List α} (h : OwnG T k enc w base v l) (hb : But g B w w') (hB : w.heap.size ≤ B) (hg : g < base) : OwnG T k enc w' base v l :=
  h.bu (ob := none) (.of_but hb) hB hg (fun i _ => by simp)
theorem OwnG.below {α : Type} {T : TypeId} {k : Nat} {enc : α → List Value} {w w' : World} {base B : Nat} {v : Value} {l : List α} (h : OwnG T k enc w base v l) (hb : Below B w w') (hB : w.heap.size ≤ B) : OwnG T k enc w' base v l := by
  refine ⟨h.1, ?_⟩
  rcases h.2 with h0 | ⟨b, cap, cur, hv, hbb, hh, r⟩
  · exact .inl h0
  · refine .inr ⟨b, cap, cur, hv, hbb, ?_, r⟩
    rw [hb.block b (Nat.lt_of_lt_of_le (Array.getElem?_eq_some_iff.1 hh).1 hB)]
    exact hh
theorem OwnG.nil {α : Type} (T : TypeId) (k : Nat) (enc : α → List Value) (w : World) (base : Nat) : OwnG T k enc w base (.slice none 0 0) [] := World.ownsRow_nil w base T k
theorem OwnG.block {α : Type} {T : TypeId} {k : Nat} {enc : α → List Value} {w : World} {base : Nat} {v : Value} {l : List α} (h : OwnG T k enc w base v l) {i : Nat} (hi : v.ownBlock = some i) : base ≤ i ∧ i < w.heap.size ∧ ∃ cur, w.heap[i]? = some (.cells cur T (0, 0)) := by
  rcases h.2 with ⟨hv, _⟩ | ⟨b, cap, cur, hv, hbb, hh, r⟩
  · rw [hv] at hi; cases hi
  · rw [hv] at hi
    cases hi
    exact ⟨hbb, (Array.getElem?_eq_some_iff.1 hh).1, cur, hh⟩
theorem OwnG.form {α : Type} {T : TypeId} {k : Nat} {enc : α → List Value} {w : World} {base : Nat} {v : Value} {l : List α} (h : OwnG T k enc w base v l) (hl : 0 < l.length) : ∃ gg n cap, v = .slice (some ⟨gg, 0, none⟩) n cap ∧ n = l.length := by
  obtain ⟨g, cap, rfl⟩ := ownsRow_form h hl
  exact ⟨g, _, cap, rfl, rfl⟩
/-- What becomes of a value that is lengthened: its block or a new one. -/
def Moved (v v' : Value) (B : Nat) : Prop := ∀ b, v'.ownBlock = some b → v.ownBlock = some b ∨ B ≤ b
theorem flat_length {α : Type} {k : Nat} {enc : α → List Value} (hk : ∀ x, (enc x).length = k) (l : List α) : (l.flatMap enc).length = l.length * k := by
  induction l with
  | nil => simp
  | cons x l ih => rw [List.flatMap_cons, List.length_append, hk, ih, List.length_cons, Nat.add_mul, Nat.one_mul, Nat.add_comm]
theorem run_own_g {α : Type} (S T : TypeId) (i0 : TypeInfo) (z : Value) (k by_ : Nat) (enc : α → List Value) (hk : ∀ x, (enc x).length = k) (hk0 : 0 < k) (hone : ∀ x, ∀ v ∈ enc x, v.oneCell' = true) (hS : Tryz.prog.underlying S = some (.slice T)) (hi : Tryz.prog.info? T = some i0) (hz0 : i0.zero = some z) (hz1 : i0.size = k) (hz2 : i0.bytes = by_) (hzc : z.cells.size = k)
    (W : World) (base : Nat) (v : Value) (l : List α) (x : α) (b cap : Nat) (hown : OwnG T k enc W base v l) (hx : W.heap[b]? = some (.cells (enc x).toArray T (0, 0))) (hb : base ≤ W.heap.size) (hsz : (l.length + 1) * by_ ≤ 140737488355328) (hl : l.length + 1 ≤ 9223372036854775807) :
    ∃ v' w', (Builtin.append_ #[S, S] S #[v, .slice (some ⟨b, 0, none⟩) 1 cap]).run Tryz.prog W = .ok v' w' ∧ OwnG T k enc w' base v' (l ++ [x]) ∧ W.grownBy w' v.ownBlock ∧ Moved v v' W.heap.size := by
  have hc : ∀ j u, (enc x)[j]? = some u → W.cell? ((⟨b, 0, none⟩ : Addr).add j) = some u := by
    intro j u hu
    rw [cell_add, Nat.zero_add, cell_of_block hx]
    simpa using hu
  have hl4 : (enc x).length = 1 * k := by rw [hk, Nat.one_mul]
  have hend : ∀ (v' : Value) (w' : World), w'.ownsRow base T k v' (l.length + 1) (l.flatMap enc ++ enc x) → OwnG T k enc w' base v' (l ++ [x]) := by
    intro v' w' h
    unfold OwnG
    rw [List.length_append, List.flatMap_append, show [x].flatMap enc = enc x by simp]
    exact h
  rcases hown.2 with ⟨rfl, h0⟩ | ⟨g, cp, cur, rfl, hg, hh, hn, hm, hcs, ht⟩
  · obtain ⟨v', w', h1, h2, h3, _⟩ := run_append_own (P := Tryz.prog) W W.heap.size S S T i0 z k by_ hS hi hz0 hz1 hz2 hzc hk0 (.slice none 0 0) l.length (l.flatMap enc) ⟨hown.1, .inl ⟨rfl, h0⟩⟩ ⟨b, 0, none⟩ 1 cap (enc x) hl4 hc (hone x) (by unfold maxLen; omega) hsz (Nat.le_refl _)
    refine ⟨v', w', h1, hend v' w' (ownsRow_le h2 hb), h3, fun i hi => .inr ?_⟩
    rcases h2.2 with ⟨hv, _⟩ | ⟨b2, cap2, cur2, hv, hbb, _⟩
    · rw [hv] at hi; cases hi
    · rw [hv] at hi; cases hi; exact hbb
  · by_cases hroom : l.length + 1 ≤ cp
    · obtain ⟨w', h1, h2, h3⟩ := run_append_fits (P := Tryz.prog) W base S S T i0 k hS hi hz1 g l.length cp (l.flatMap enc) hown ⟨b, 0, none⟩ 1 cap (enc x) hl4 hc (hone x) hroom
      exact ⟨_, w', h1, hend _ w' h2, h3, fun i hi => .inl hi⟩
    · obtain ⟨v', w', h1, h2, h3⟩ := run_append_arg_grows (P := Tryz.prog) W S S T i0 z k by_ hS hi hz0 hz1 hz2 hzc hk0 ⟨g, 0, none⟩ l.length cp (l.flatMap enc) (flat_length hk l) (fun j u hu => by
        have hj : j < l.length * k := by
          rw [← flat_length hk l]
          exact (List.getElem?_eq_some_iff.1 hu).1
        rw [cell_add, Nat.zero_add, World.ownsRow.cellAt hown j hj, hu]) ⟨b, 0, none⟩ 1 cap (enc x) hl4 hc (by omega) (by unfold maxLen; omega) hsz
      refine ⟨v', w', h1, hend v' w' (ownsRow_le h2 hb), ?_, fun i hi => .inr ?_⟩
      · exact ⟨h3.os, h3.tape, h3.output, h3.size, fun j hj _ => h3.block j hj (by simp)⟩
      · rcases h2.2 with ⟨hv, _⟩ | ⟨b2, cap2, cur2, hv, hbb, _⟩
        · rw [hv] at hi; cases hi
        · rw [hv] at hi; cases hi; exact hbb
end Go.Proofs.YtonbfcpbgkpbaaaGreatDoor
end
section
/- Tokens are what they are; recipe's parser.rune: its contract. -/
namespace Go.Proofs.YtonbfcpbgkpbaaaGreatDoor
open Go.RowKit Go.Sort Go.Joins
set_option linter.unusedVariables false
set_option linter.unusedSimpArgs false
set_option maxRecDepth 100000
/-- Of a rune: its digits; of a number: its digits. -/
def TokOk (t : Tok) : Prop := (t.k = 3 → ∃ D, t.s = 85 :: 43 :: D ∧ D.length ≤ 6 ∧ ∀ c ∈ D, capB c = true) ∧ (t.k = 2 → t.s.length ≤ 10 ∧ ∀ c ∈ t.s, capB c = true)
theorem zeroT_ok : TokOk zeroT := ⟨(fun h => absurd h (by decide)), (fun h => absurd h (by decide))⟩
theorem field_text (a b : Int) (s : ByteArray) (w : World) : (Instr.field 92 (.agg #[.int .i64 a, .int .i64 b, .string s]) 2).run Tryz.prog w = .ok (.string s) w := by kernel_rfl
theorem TokOk.of {k a : Nat} {s : List UInt8} (h3 : k ≠ 3) (h2 : k ≠ 2) : TokOk ⟨k, a, s⟩ := ⟨fun h => absurd h h3, fun h => absurd h h2⟩
theorem bounded_fst (k n : Nat) (l : List UInt8) : (bounded k n l).1 = 6 ∨ (bounded k n l).1 = k := by
  unfold bounded
  by_cases h : headOn (l.drop n) = true
  · rw [if_pos h]; exact .inl rfl
  · rw [if_neg h]; exact .inr rfl
theorem take_takeWhile (p : UInt8 → Bool) (l : List UInt8) : l.take (l.takeWhile p).length = l.takeWhile p := by
  induction l with
  | nil => rfl
  | cons c l ih =>
    cases h : p c with
    | true => rw [List.takeWhile_cons_of_pos h, List.length_cons, List.take_succ_cons, ih]
    | false => rw [List.takeWhile_cons_of_neg (by rw [h]; decide)]; rfl
theorem ten_all : ∀ (f : Nat) (l : List UInt8), tenDigits f l ≤ f ∧ ∀ c ∈ l.take (tenDigits f l), digitB c = true := by
  intro f
  induction f with
  | zero => intro l; exact ⟨Nat.le_refl _, fun c hc => by simp [tenDigits] at hc⟩
  | succ f ih =>
    intro l
    cases l with
    | nil => exact ⟨Nat.zero_le _, fun c hc => by simp at hc⟩
    | cons c l =>
      unfold tenDigits
      by_cases h : digitB c = true
      · rw [if_pos h]
        have := ih l
        refine ⟨by omega, fun x hx => ?_⟩
        rw [Nat.add_comm, List.take_succ_cons] at hx
        rcases List.mem_cons.1 hx with rfl | hx
        · exact h
        · exact this.2 x hx
      · rw [if_neg h]
        exact ⟨Nat.zero_le _, fun x hx => by simp at hx⟩
theorem digit_cap {c : UInt8} (h : digitB c = true) : capB c = true := by unfold capB; rw [h]; rfl
theorem tokL_ok (l : List UInt8) (a : Nat) : TokOk ⟨(tokL l).1, a, (tokL l).2.2⟩ := by
  cases l with
  | nil => exact .of (by decide) (by decide)
  | cons c l =>
    by_cases h34 : c.toNat = 34
    · rw [tok_word h34]
      have := wordW_kind l 0 0
      exact .of (by simp only; omega) (by simp only; omega)
    · cases h1 : smallB c with
      | true =>
        rw [tok_name h34 h1]
        have := bounded_fst 1 ((c :: l).takeWhile smallB).length (c :: l)
        exact .of (by omega) (by omega)
      | false =>
        by_cases h48 : c.toNat = 48
        · rw [tok_zero h34 h1 h48]
          have := bounded_fst 2 1 (c :: l)
          refine ⟨fun h => by simp only at h; omega, fun _ => ⟨by show (List.take 1 (c :: l)).length ≤ 10; simp, fun x hx => ?_⟩⟩
          have hx : x ∈ List.take 1 (c :: l) := hx
          simp at hx
          subst hx
          unfold capB digitB
          simp [h48]
        · cases h2 : digitB c with
          | true =>
            rw [tok_digits h34 h1 h48 h2]
            have := bounded_fst 2 (tenDigits 10 (c :: l)) (c :: l)
            have ht := ten_all 10 (c :: l)
            refine ⟨fun h => by simp only at h; omega, fun _ => ⟨?_, fun x hx => digit_cap (ht.2 x hx)⟩⟩
            show (List.take _ _).length ≤ 10
            rw [List.length_take]
            omega
          | false =>
            by_cases h4 : (c :: l).take 2 = [85, 43]
            · rw [tok_rune h34 h1 h48 h2 h4]
              refine ⟨fun h => ?_, fun h => ?_⟩
              · have hb := bounded_fst (if runeDB (((c :: l).drop 2).takeWhile capB) = true then 3 else 6) (2 + (((c :: l).drop 2).takeWhile capB).length) (c :: l)
                simp only at h
                have hr : runeDB (((c :: l).drop 2).takeWhile capB) = true := by
                  rcases hb with hb | hb
                  · rw [hb] at h; cases h
                  · rw [hb] at h
                    by_cases hr : runeDB (((c :: l).drop 2).takeWhile capB) = true
                    · exact hr
                    · rw [if_neg hr] at h; cases h
                refine ⟨((c :: l).drop 2).takeWhile capB, ?_, ?_, fun x hx => List.all_eq_true.1 List.all_takeWhile x hx⟩
                · show List.take (2 + (((c :: l).drop 2).takeWhile capB).length) (c :: l) = _
                  rw [List.take_add, h4, take_takeWhile]
                  rfl
                · unfold runeDB at hr
                  simp only [Bool.and_eq_true, decide_eq_true_eq] at hr
                  exact hr.1.1.2
              · have hb := bounded_fst (if runeDB (((c :: l).drop 2).takeWhile capB) = true then 3 else 6) (2 + (((c :: l).drop 2).takeWhile capB).length) (c :: l)
                simp only at h
                exfalso
                rcases hb with hb | hb
                · rw [hb] at h; cases h
                · rw [hb] at h
                  split at h <;> cases h
            · by_cases h5 : (c :: l).take 2 = [46, 46]
              · rw [tok_to h34 h1 h48 h2 h4 h5]; exact .of (show 5 ≠ 3 by decide) (show 5 ≠ 2 by decide)
              · by_cases h6 : c.toNat = 123 ∨ c.toNat = 125 ∨ c.toNat = 43 ∨ c.toNat = 61
                · rw [tok_sign h34 h1 h48 h2 h4 h5 h6]; exact .of (show 5 ≠ 3 by decide) (show 5 ≠ 2 by decide)
                · rw [tok_none h34 h1 h48 h2 h4 h5 h6]; exact .of (by decide) (by decide)
theorem strm_ok : ∀ (f : Nat) (l : List UInt8) (p : Nat), ∀ t ∈ strm f l p, TokOk t := by
  intro f
  induction f with
  | zero => intro l p t ht; simp [strm] at ht
  | succ f ih =>
    intro l p t ht
    unfold strm at ht
    simp only at ht
    rcases List.mem_cons.1 ht with rfl | ht
    · exact tokL_ok _ _
    · split at ht
      · exact ih _ _ t ht
      · simp at ht
/-- All tokens that are still to come are what they are. -/
def Toks (st : PS) : Prop := ∀ t ∈ st.2, TokOk t
theorem Toks.take {st : PS} (h : Toks st) (m : Tok → Bool) : Toks (takeP m st).2 ∧ TokOk (takeP m st).1 := by
  obtain ⟨bad, ts⟩ := st
  cases ts with
  | nil => cases bad <;> exact ⟨h, zeroT_ok⟩
  | cons t ts =>
    cases bad with
    | true => exact ⟨h, zeroT_ok⟩
    | false =>
      show Toks (if m t = true then (t, (false, ts)) else (zeroT, (true, t :: ts))).2 ∧ TokOk (if m t = true then (t, (false, ts)) else (zeroT, (true, t :: ts))).1
      by_cases hm : m t = true
      · rw [if_pos hm]
        exact ⟨fun x hx => h x (List.mem_cons_of_mem _ hx), h t List.mem_cons_self⟩
      · rw [if_neg hm]
        exact ⟨h, zeroT_ok⟩
/-- What is taken is of the kind that is asked for, or nothing. -/
theorem take_kind (k : Nat) (ws : List ByteArray) (st : PS) : (takeP (mW k ws) st).1 = zeroT ∨ (takeP (mW k ws) st).1.k = k := by
  obtain ⟨bad, ts⟩ := st
  cases ts with
  | nil => cases bad <;> exact .inl rfl
  | cons t ts =>
    cases bad with
    | true => exact .inl rfl
    | false =>
      show (if mW k ws t = true then (t, (false, ts)) else (zeroT, (true, t :: ts))).1 = zeroT ∨ (if mW k ws t = true then (t, (false, ts)) else (zeroT, (true, t :: ts))).1.k = k
      by_cases hm : mW k ws t = true
      · rw [if_pos hm]
        unfold mW at hm
        rw [Bool.and_eq_true] at hm
        exact .inr (by simpa using hm.1)
      · rw [if_neg hm]
        exact .inl rfl
theorem trim_rune (D : List UInt8) : trimB (textOf (85 :: 43 :: D)) ⟨#[85, 43]⟩ = textOf D := by
  unfold trimB
  rw [if_pos (by rw [preB_iff]; rfl)]
  rw [text_cut]
  have e : (tl (textOf (85 :: 43 :: D))).drop 2 = D := rfl
  show textOf (List.take ((textOf (85 :: 43 :: D)).size - 2) ((tl (textOf (85 :: 43 :: D))).drop 2)) = _
  rw [e, List.take_of_length_le (by simp [textOf, ByteArray.size])]
theorem trim_none : trimB (textOf []) ⟨#[85, 43]⟩ = textOf [] := by
  unfold trimB
  rw [if_neg (by rw [preB_iff]; decide)]
set_option maxHeartbeats 4000000 in
theorem rune_any (g : Nat) (src : ByteArray) (st : PS) (d : DV) (w : World) (h : PX w g src st d) (ht : Toks st) (hs : src.size ≤ 4194304) :
    Calls Tryz.prog 86 #[.pointer (some ⟨g, 0, none⟩)] w fun e w' => e = .returned (.int .i32 (runeV (takeP (mW 3 []) st).1.s : Nat)) ∧ PX w' g src (takeP (mW 3 []) st).2 d ∧ But g w.heap.size w w' := by
  have HT := take_any g src st d 3 none 0 [] w h (.inl rfl) (by simp) hs (by omega)
  have hfd := fun a b s wx => field_text a b s wx
  rw [show ([] : List ByteArray).length = 0 from rfl] at HT
  have hok := (ht.take (mW 3 [])).2
  have hkd := take_kind 3 [] st
  obtain ⟨r, hr⟩ : ∃ r, r = takeP (mW 3 []) st := ⟨_, rfl⟩
  rw [← hr] at HT hok hkd ⊢
  clear hr
  have hD : ∃ D : List UInt8, trimB (textOf r.1.s) ⟨#[85, 43]⟩ = textOf D ∧ runeV r.1.s = valF 16 0 D ∧ D.length ≤ 6 ∧ ∀ c ∈ D, capB c = true := by
    rcases hkd with hz | hk3
    · exact ⟨[], by rw [hz]; exact trim_none, by rw [hz]; rfl, by simp, by simp⟩
    · obtain ⟨D, h1, h2, h3⟩ := hok.1 hk3
      exact ⟨D, by rw [h1]; exact trim_rune D, by rw [h1]; rfl, h2, h3⟩
  obtain ⟨D, h1, h2, h3, h4⟩ := hD
  rw [h2]
  have hv := valF_six (b := 16) (by omega) h4 h3
  have HTR := fun wx => trim_any (textOf r.1.s) ⟨#[85, 43]⟩ (by
    rcases hkd with hz | hk3
    · rw [hz]; decide
    · obtain ⟨D', e1, e2, _⟩ := hok.1 hk3
      rw [e1]
      show (85 :: 43 :: D').toArray.size ≤ _
      simp
      omega) wx
  rw [h1] at HTR
  have HV := fun wx => valueOf_any (textOf D) 16 (by omega) (by show D.toArray.size ≤ 10; simp; omega) (by simpa [tl, textOf] using h4) wx
  rw [show tl (textOf D) = D by simp [tl, textOf]] at HV
  obtain ⟨v, hvv⟩ : ∃ v, v = valF 16 0 D := ⟨_, rfl⟩
  rw [← hvv] at HV hv ⊢
  have hw32 : wrap32 (v : Int) = (v : Int) := by unfold wrap32; omega
  obtain ⟨x, hx⟩ : ∃ x, x = textOf r.1.s := ⟨_, rfl⟩
  obtain ⟨y, hy⟩ : ∃ y, y = textOf D := ⟨_, rfl⟩
  rw [← hx] at HTR
  rw [← hy] at HTR HV
  have HTV : Hid (tokV r.1 = .agg #[.int .i64 (r.1.k : Nat), .int .i64 (r.1.at' : Nat), .string x]) := Lib.hid (by unfold tokV; rw [hx])
  clear h1 h2 h3 h4 hvv hkd hok hx hy ht h
  go_enter Tryz.func86, Tryz.ntmps86
  go_wp2_with fail
  refine HT.mono ?_
  rintro e w1 ⟨rfl, hP1, hb1⟩
  rw [HTV.out]
  clear HT
  go_wp2_with fail
  refine (HTR _).mono ?_
  rintro e w2 ⟨rfl, he⟩
  obtain rfl := he.symm
  clear HTR
  go_wp2_with fail
  refine (HV _).mono ?_
  rintro e w3 ⟨rfl, hb3⟩
  clear HV
  go_wp2_with fail
  go_ret
  exact ⟨rfl, hP1.below hb3 hP1.lt, hb1.trans (But.of_below (hb3.mono hb1.size))⟩
end Go.Proofs.YtonbfcpbgkpbaaaGreatDoor
end
section
/- recipe's parser.spans: its contract. -/
namespace Go.Proofs.YtonbfcpbgkpbaaaGreatDoor
open Go.RowKit Go.Sort Go.Joins
set_option linter.unusedVariables false
set_option linter.unusedSimpArgs false
set_option maxRecDepth 100000
theorem text_list (l : List UInt8) : (textOf l).toList = l := by rw [Lib.toList_data]; rfl
theorem mW_nil (k : Nat) : mW k [] = mEmpty k := by
  funext t
  unfold mW mEmpty
  simp
theorem containsB_eq (ws : List ByteArray) (s : List UInt8) : containsB ws (textOf s) = (ws.map tl).contains s := by
  unfold containsB
  rw [text_list]
  induction ws with
  | nil => rfl
  | cons x ws ih =>
    rw [List.any_cons, ih, List.map_cons, List.contains_cons, Lib.toList_data]
theorem mW_of (k : Nat) (ws : List ByteArray) (h : ws ≠ []) : mW k ws = mOf k (ws.map tl) := by
  funext t
  unfold mW mOf
  rw [containsB_eq]
  cases ws with
  | nil => exact absurd rfl h
  | cons x ws => rfl
theorem mW_sgn (l : List UInt8) : mW 5 [textOf l] = sgn l := by
  rw [mW_of 5 _ (by simp)]
  rfl
def DV.get (d : DV) (o : Nat) : Value := if o = 8 then d.A else if o = 9 then d.B else d.C
def DV.set (d : DV) (o : Nat) (v : Value) : DV := if o = 8 then { d with A := v } else if o = 9 then { d with B := v } else { d with C := v }
theorem DV.get_set (d : DV) (o : Nat) (v : Value) : (d.set o v).get o = v := by
  unfold DV.get DV.set
  by_cases h8 : o = 8
  · rw [if_pos h8, if_pos h8]
  · by_cases h9 : o = 9
    · rw [if_neg h8, if_neg h8, if_pos h9, if_pos h9]
    · rw [if_neg h8, if_neg h8, if_neg h9, if_neg h9]
theorem DV.set_set (d : DV) (o : Nat) (v u : Value) : (d.set o v).set o u = d.set o u := by
  unfold DV.set
  by_cases h8 : o = 8
  · simp only [if_pos h8]
  · by_cases h9 : o = 9
    · simp only [if_neg h8, if_pos h9]
    · simp only [if_neg h8, if_neg h9]
theorem DV.set_get (d : DV) (o : Nat) : d.set o (d.get o) = d := by
  unfold DV.set DV.get
  by_cases h8 : o = 8
  · simp only [if_pos h8]
  · by_cases h9 : o = 9
    · simp only [if_neg h8, if_pos h9]
    · simp only [if_neg h8, if_neg h9]
theorem PX.cell {w : World} {g : Nat} {src : ByteArray} {st : PS} {d : DV} (h : PX w g src st d) {o : Nat} (ho : o = 8 ∨ o = 9 ∨ o = 10) : w.cell? ⟨g, o, none⟩ = some (d.get o) ∧ w.frozen? ⟨g, o, none⟩ = false := by
  obtain ⟨z, hP, hr, rfl⟩ := h
  rcases ho with rfl | rfl | rfl
  · exact ⟨hP.c8, hP.free _⟩
  · exact ⟨hP.c9, hP.free _⟩
  · exact ⟨hP.c10, hP.free _⟩
theorem PX.put {w : World} {g : Nat} {src : ByteArray} {st : PS} {d : DV} (h : PX w g src st d) {o : Nat} (ho : o = 8 ∨ o = 9 ∨ o = 10) (v : Value) : PX (w.setCell ⟨g, o, none⟩ v) g src st (d.set o v) := by
  obtain ⟨z, hP, hr, rfl⟩ := h
  rcases ho with rfl | rfl | rfl
  · exact ⟨_, hP.setA v, hr, rfl⟩
  · exact ⟨_, hP.setB v, hr, rfl⟩
  · exact ⟨_, hP.setC v, hr, rfl⟩
theorem PX.bu {w w' : World} {g : Nat} {src : ByteArray} {st : PS} {d : DV} (h : PX w g src st d) (hb : w'.heap[g]? = w.heap[g]?) : PX w' g src st d := by
  obtain ⟨z, hP, hr⟩ := h
  exact ⟨z, hb.trans hP, hr⟩
def encS (x : Sp) : List Value := [.int .i32 x.lo, .int .i32 x.hi]
theorem encS_one (x : Sp) : ∀ v ∈ encS x, v.oneCell' = true := by
  intro v hv
  simp [encS] at hv
  rcases hv with rfl | rfl <;> rfl
theorem infoSp : (Tryz.prog.info? 41).map (fun i => (i.zero, i.size, i.bytes)) = some (some (.agg #[.int .i32 0, .int .i32 0]), 2, 8) := by kernel_rfl
/-- A text of signs, as it is handed on. -/
theorem texts_new (w : World) (ws : List ByteArray) : WSP (w.alloc (.cells (ws.map Value.string).toArray 9)) (some ⟨w.heap.size, 0, none⟩) ws := WSP.new w ws _
theorem take_length (m : Tok → Bool) (st : PS) : (takeP m st).2.2.length ≤ st.2.length := by
  obtain ⟨bad, ts⟩ := st
  cases ts with
  | nil => cases bad <;> exact Nat.le_refl _
  | cons t ts =>
    cases bad with
    | true => exact Nat.le_refl _
    | false =>
      show (if m t = true then (t, (false, ts)) else (zeroT, (true, t :: ts))).2.2.length ≤ _
      by_cases hm : m t = true
      · rw [if_pos hm]; exact Nat.le_succ _
      · rw [if_neg hm]; exact Nat.le_refl _
theorem take_less {m : Tok → Bool} {st : PS} (h : meetP m st = true) : (takeP m st).2.2.length < st.2.length := by
  obtain ⟨bad, ts⟩ := st
  cases ts with
  | nil => cases bad <;> cases h
  | cons t ts =>
    cases bad with
    | true => cases h
    | false =>
      have h : m t = true := h
      show (if m t = true then (t, (false, ts)) else (zeroT, (true, t :: ts))).2.2.length < _
      rw [if_pos h]
      exact Nat.lt_succ_self _
theorem spanP_less {st : PS} (h : meetP (mEmpty 3) st = true) : (spanP st).2.2.length < st.2.length := by
  have h1 := take_less h
  unfold spanP
  simp only
  split
  · have h2 := take_length (sgn sTo) (takeP (mEmpty 3) st).2
    have h3 := take_length (mEmpty 3) (takeP (sgn sTo) (takeP (mEmpty 3) st).2).2
    simp only
    omega
  · exact h1
theorem Toks.span {st : PS} (h : Toks st) : Toks (spanP st).2 := by
  have h1 := (h.take (mEmpty 3)).1
  unfold spanP
  simp only
  split
  · exact ((h1.take (sgn sTo)).1.take (mEmpty 3)).1
  · exact h1
theorem spanF_no {f : Nat} {st : PS} (h : meetP (mEmpty 3) st = false) : spanF f st = ([], st) := by
  cases f with
  | zero => rfl
  | succ f => rw [spanF, if_neg (by rw [h]; decide)]
theorem spanF_yes {f : Nat} {st : PS} (h : meetP (mEmpty 3) st = true) : spanF (f + 1) st = ((spanP st).1 :: (spanF f (spanP st).2).1, (spanF f (spanP st).2).2) := by
  rw [spanF, if_pos h]
/-- What stands between two rounds of spans. -/
def SpI (w : World) (g base o : Nat) (src : ByteArray) (d : DV) (l0 : List Sp) (st0 : PS) (f0 f : Nat) (wr : World) : Prop :=
  ∃ (acc : List Sp) (st : PS) (v : Value), PX wr g src st (d.set o v) ∧ OwnG 41 2 encS wr base v (l0 ++ acc) ∧ Bu g (d.get o).ownBlock w.heap.size w wr ∧ Moved (d.get o) v w.heap.size ∧ Toks st ∧ st.2.length ≤ f ∧ acc.length + st.2.length ≤ f0 ∧ spanF f0 st0 = (acc ++ (spanF f st).1, (spanF f st).2)
end Go.Proofs.YtonbfcpbgkpbaaaGreatDoor
end
