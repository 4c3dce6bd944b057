/- recipe's scanner.next: its contract -/
import Derived.Test.YtonbfcpbgkpbaaaQNextB
namespace Go.Proofs.Ytonbfcpbgkpbaaa
open Go.RowKit Go.Sort Go.Joins
set_option linter.unusedVariables false
set_option linter.unusedSimpArgs false
set_option maxRecDepth 100000
theorem wordW_kind : ∀ (l : List UInt8) (st : Nat) (h : UInt8), (wordW st h l).1 = 4 ∨ (wordW st h l).1 = 6 ∨ (wordW st h l).1 = 7 := by
  intro l
  induction l with
  | nil => intro st h; rw [wordW_nil]; exact .inr (.inr rfl)
  | cons c l ih =>
    intro st h
    match st with
    | 0 =>
      unfold wordW
      split
      · exact .inl rfl
      · split
        · exact ih 1 h
        · split
          · exact ih 0 h
          · exact .inr (.inl rfl)
    | 1 =>
      unfold wordW
      split
      · exact ih 0 h
      · split
        · exact ih 2 c
        · exact .inr (.inl rfl)
    | n + 2 =>
      unfold wordW
      split
      · exact ih 0 h
      · exact .inr (.inl rfl)
theorem tok_word {c : UInt8} {l : List UInt8} (h : c.toNat = 34) : tokL (c :: l) = ((wordW 0 0 l).1, (wordW 0 0 l).2.1 + 1, wordT (wordW 0 0 l)) := by
  show (if _ then _ else _) = _
  rw [if_pos h]
theorem tok_name {c : UInt8} {l : List UInt8} (h : ¬ c.toNat = 34) (h1 : smallB c = true) : tokL (c :: l) = bounded 1 ((c :: l).takeWhile smallB).length (c :: l) := by
  show (if _ then _ else _) = _
  rw [if_neg h, if_pos h1]
theorem tok_zero {c : UInt8} {l : List UInt8} (h : ¬ c.toNat = 34) (h1 : smallB c = false) (h2 : c.toNat = 48) : tokL (c :: l) = bounded 2 1 (c :: l) := by
  show (if _ then _ else _) = _
  rw [if_neg h, if_neg (by rw [h1]; decide), if_pos h2]
theorem tok_digits {c : UInt8} {l : List UInt8} (h : ¬ c.toNat = 34) (h1 : smallB c = false) (h2 : ¬ c.toNat = 48) (h3 : digitB c = true) : tokL (c :: l) = bounded 2 (tenDigits 10 (c :: l)) (c :: l) := by
  show (if _ then _ else _) = _
  rw [if_neg h, if_neg (by rw [h1]; decide), if_neg h2, if_pos h3]
theorem tok_rune {c : UInt8} {l : List UInt8} (h : ¬ c.toNat = 34) (h1 : smallB c = false) (h2 : ¬ c.toNat = 48) (h3 : digitB c = false) (h4 : (c :: l).take 2 = [85, 43]) : tokL (c :: l) = bounded (if runeDB (((c :: l).drop 2).takeWhile capB) = true then 3 else 6) (2 + (((c :: l).drop 2).takeWhile capB).length) (c :: l) := by
  show (if _ then _ else _) = _
  rw [if_neg h, if_neg (by rw [h1]; decide), if_neg h2, if_neg (by rw [h3]; decide), if_pos h4]
theorem tok_to {c : UInt8} {l : List UInt8} (h : ¬ c.toNat = 34) (h1 : smallB c = false) (h2 : ¬ c.toNat = 48) (h3 : digitB c = false) (h4 : ¬ (c :: l).take 2 = [85, 43]) (h5 : (c :: l).take 2 = [46, 46]) : tokL (c :: l) = (5, 2, (c :: l).take 2) := by
  show (if _ then _ else _) = _
  rw [if_neg h, if_neg (by rw [h1]; decide), if_neg h2, if_neg (by rw [h3]; decide), if_neg h4, if_pos h5]
theorem tok_sign {c : UInt8} {l : List UInt8} (h : ¬ c.toNat = 34) (h1 : smallB c = false) (h2 : ¬ c.toNat = 48) (h3 : digitB c = false) (h4 : ¬ (c :: l).take 2 = [85, 43]) (h5 : ¬ (c :: l).take 2 = [46, 46]) (h6 : c.toNat = 123 ∨ c.toNat = 125 ∨ c.toNat = 43 ∨ c.toNat = 61) : tokL (c :: l) = (5, 1, (c :: l).take 1) := by
  show (if _ then _ else _) = _
  rw [if_neg h, if_neg (by rw [h1]; decide), if_neg h2, if_neg (by rw [h3]; decide), if_neg h4, if_neg h5, if_pos h6]
theorem tok_none {c : UInt8} {l : List UInt8} (h : ¬ c.toNat = 34) (h1 : smallB c = false) (h2 : ¬ c.toNat = 48) (h3 : digitB c = false) (h4 : ¬ (c :: l).take 2 = [85, 43]) (h5 : ¬ (c :: l).take 2 = [46, 46]) (h6 : ¬ (c.toNat = 123 ∨ c.toNat = 125 ∨ c.toNat = 43 ∨ c.toNat = 61)) : tokL (c :: l) = (6, 0, []) := by
  show (if _ then _ else _) = _
  rw [if_neg h, if_neg (by rw [h1]; decide), if_neg h2, if_neg (by rw [h3]; decide), if_neg h4, if_neg h5, if_neg h6]
theorem stands_iff2 (s : ByteArray) (q : Nat) (a b : UInt8) : preB (s.extract q s.size) ⟨#[a, b]⟩ = decide (((tl s).drop q).take 2 = [a, b]) := by
  have e : tl (s.extract q s.size) = (tl s).drop q := by rw [tl_cut, List.take_of_length_le (by simp)]
  rw [Bool.eq_iff_iff, preB_iff, decide_eq_true_eq, e]
  exact Iff.rfl
set_option maxHeartbeats 8000000 in
theorem next_any (g : Nat) (s : PZ) (w : World) (h : PB w g s) (hp : s.p ≤ s.src.size) (hs : s.src.size ≤ 4194304) :
    Calls Try.prog 41 #[.pointer (some ⟨g, 0, none⟩)] w (NextPost w g s (s.p + skipN false ((tl s.src).drop s.p)) (tokL ((tl s.src).drop (s.p + skipN false ((tl s.src).drop s.p))))) := by
  have htl := tl_len s.src
  have bx := box_below w (.cells #[.int .i64 0, .int .i64 0, .string ⟨#[]⟩] 76)
  have hX : (w.alloc (.cells #[.int .i64 0, .int .i64 0, .string ⟨#[]⟩] 76)).heap[w.heap.size]? = some (.cells #[.int .i64 0, .int .i64 0, .string ⟨#[]⟩] 76 (0, 0)) := heap_alloc_new w _
  have hP := h.below bx h.lt
  have hlt := h.lt
  obtain ⟨W, hW⟩ : ∃ W, W = w.alloc (.cells #[.int .i64 0, .int .i64 0, .string ⟨#[]⟩] 76) := ⟨_, rfl⟩
  have hsW : W.heap.size = w.heap.size + 1 := by rw [hW]; simp
  rw [← hW] at bx hX hP
  have HS := skip_any g s W hP hp hs
  obtain ⟨q, hq⟩ : ∃ q, q = s.p + skipN false ((tl s.src).drop s.p) := ⟨_, rfl⟩
  obtain ⟨R, hR⟩ : ∃ R, R = tokL ((tl s.src).drop q) := ⟨_, rfl⟩
  have hqs : q ≤ s.src.size := by
    have : ∀ (l : List UInt8) (r : Bool), skipN r l ≤ l.length := by
      intro l
      induction l with
      | nil => intro r; simp [skipN]
      | cons c l ih =>
        intro r
        have h1 := ih true
        have h2 := ih false
        unfold skipN
        rw [List.length_cons]
        split
        · split <;> omega
        · split
          · omega
          · split <;> omega
    have := this ((tl s.src).drop s.p) false
    rw [List.length_drop] at this
    omega
  rw [← hq, ← hR]
  rw [← hq] at HS
  have H0 := fun wx hx => here_any g { s with p := q } wx hx hqs (by simp only; omega)
  simp only at H0
  have HX := Lib.hid hX
  have HBX := Lib.hid bx
  have HSW := Lib.hid hsW
  have HW := Lib.hid hW
  obtain ⟨z, hzz⟩ : ∃ z, z = w.heap.size := ⟨_, rfl⟩
  have HZZ := Lib.hid hzz
  clear h hX bx hP hsW hW hq
  go_enter Try.func41, Try.ntmps41
  change Code.wp Try.prog _ (NeQ w g s q R) _ _
  go_wp2_with fail
  apply on_enter
  change Code.wp Try.prog _ (viaL (On Try.prog (scopeQ Try.f41) _) _) _ _
  rw [← HW.out, ← hzz]
  clear hzz
  go_wp2_with fail
  refine HS.mono ?_
  rintro e w0 ⟨rfl, hP0, hb0⟩
  have HW0 : Hid (Nst w g s q q w0) := Lib.hid ⟨Nat.le_refl _, hqs, hP0, (But.of_below HBX.out).trans (hb0.mono (by have := HSW.out; omega)), (hb0.2.2.2.2 _ (by have := HSW.out; omega) (by omega)).trans HX.out, hlt⟩
  have c1 := hP0.c1
  simp only at c1
  clear HS hb0 hP0
  go_wp2_with fail
  refine (H0 w0 (by exact HW0.out.pb)).mono ?_
  rintro e w1 ⟨rfl, hb⟩
  have HW1 := Lib.hid (HW0.out.adv hb)
  have c1 := HW1.out.pb.c1
  have f1 := HW1.out.pb.free 1
  simp only at c1
  clear H0 HW0 hb
  have hq4 : q ≤ 4194304 := by omega
  by_cases hl : q < (tl s.src).length
  · rw [hereI_at hl]
    have hdc := drop_cons _ q hl
    obtain ⟨c, hcc⟩ : ∃ c, c = (tl s.src)[q] := ⟨_, rfl⟩
    have hgc : (tl s.src)[q]? = some c := by rw [List.getElem?_eq_getElem hl, hcc]
    rw [← hcc] at hdc ⊢
    have hb8 := UInt8.toNat_lt c
    have HDC := Lib.hid hdc
    rw [hdc] at hR
    clear hcc hdc
    have hm1 : ((c.toNat : Int) == -1) = false := by simp
    by_cases h34 : c.toNat = 34
    · rw [tok_word h34] at hR
      have hk := wordW_kind ((tl s.src).drop (q + 1)) 0 0
      have hd : ((c.toNat : Int) == 34) = true := by simp [h34]
      have HWD := word_any g { s with p := q } w1 HW1.out.pb hs ⟨c, hgc, h34⟩
      have HR := Lib.hid hR
      have HK := Lib.hid hk
      obtain ⟨r, hr⟩ : ∃ r, r = wordW 0 0 ((tl s.src).drop (q + 1)) := ⟨_, rfl⟩
      rw [← hr] at HWD HR HK
      clear hR hk h34 hgc hr c1 f1
      go_wp2_with fail
      refine HWD.mono ?_
      rintro e w2 ⟨p, rfl, hp4, hps, hP2, hb2⟩
      have hsz := HW1.out.but.size
      have hz2 : Blk0 w2 z 0 0 ⟨#[]⟩ := (hb2.2.2.2.2 z (by have h0 : w.heap.size < w1.heap.size := (Array.getElem?_eq_some_iff.1 HW1.out.z).1
                                                           have := HZZ.out; omega) (by have := HZZ.out; omega)).trans (by rw [HZZ.out]; exact HW1.out.z)
      have x0 := cell_of_block hz2 0
      have x1 := cell_of_block hz2 1
      have x2 := cell_of_block hz2 2
      have f0 := fun j => unfrozen_of_block hz2 j
      have hgz : g ≠ z := by have := HZZ.out; omega
      have HZ3 := Lib.hid (tok_store hz2 (r.1 : Nat) (q : Nat) (textOf (wordT r)))
      have HP3 := Lib.hid (hP2.three hgz (.int .i64 (r.1 : Nat)) (.int .i64 (q : Nat)) (.string (textOf (wordT r))))
      have HB3 := Lib.hid ((HW1.out.but.trans (hb2.mono hsz)).three (z := z) (by have := HZZ.out; omega) (.int .i64 (r.1 : Nat)) (.int .i64 (q : Nat)) (.string (textOf (wordT r))))
      have HP4 := Lib.hid hp4
      clear HWD hz2 hP2 hb2 hp4
      simp only
      go_wp2_with fail
      rw [viaL_ret]
      obtain ⟨WF, hWF⟩ : ∃ WF, WF = (((w2.setCell ⟨z, 0, none⟩ (.int .i64 (r.1 : Nat))).setCell ⟨z, 1, none⟩ (.int .i64 (q : Nat))).setCell ⟨z, 2, none⟩ (.string (textOf (wordT r)))) := ⟨_, rfl⟩
      rw [← hWF] at HZ3 HP3 HB3 ⊢
      have y0 := cell_of_block HZ3.out 0
      have y1 := cell_of_block HZ3.out 1
      have y2 := cell_of_block HZ3.out 2
      exact bodyPost_ret (v := .agg #[.int .i64 (r.1 : Nat), .int .i64 (q : Nat), .string (textOf (wordT r))]) (by simp [results, Try.results41, go_sem, y0, y1, y2]) rfl ⟨p, (by rw [HR.out]), (fun h5 => by rw [HR.out] at h5 ⊢; have h6 := HP4.out (by have h7 : r.1 ≤ 5 := h5; have := HK.out; omega); have h8 : p = q + 1 + r.2.1 := h6; show p = q + (r.2.1 + 1); omega), hps, HP3.out, HB3.out⟩
    · have hd : ((c.toNat : Int) == 34) = false := by simp; omega
      have H1 := fun wx => isSmall_any (c.toNat : Int) wx
      have e1 : (decide (97 ≤ (c.toNat : Int)) && decide ((c.toNat : Int) ≤ 122)) = smallB c := by
        unfold smallB
        rw [Bool.eq_iff_iff]; simp only [Bool.and_eq_true, decide_eq_true_eq]; omega
      rw [e1] at H1
      clear e1
      cases h1 : smallB c with
      | true =>
        rw [tok_name h34 h1, ← HDC.out] at hR
        rw [h1] at H1
        have HR := Lib.hid hR
        clear hR h34 h1 hgc
        go_wp2_with fail
        refine (H1 _).mono ?_
        rintro e w2 ⟨rfl, he⟩
        obtain rfl := he.symm
        clear H1
        go_wp2_with (apply wp_goto; change On _ _ _ _ _ _)
        have hzE := HZZ.out
        subst hzE
        exact on_all (JNe w g s q R) (next_step w g s q R hs) _ 0 _ _ ⟨q, 6, _, ⟨rfl, rfl, rfl, rfl, rfl, rfl, rfl⟩, HW1.out, .inr (.inr (.inr (.inl ⟨rfl, rfl, by rw [HR.out, Nat.sub_self, Nat.zero_add]⟩)))⟩
      | false =>
        rw [h1] at H1
        by_cases h48 : c.toNat = 48
        · rw [tok_zero h34 h1 h48, ← HDC.out] at hR
          have hd2 : ((c.toNat : Int) == 48) = true := by simp [h48]
          have HR := Lib.hid hR
          clear hR h34 h1 h48 hgc
          go_wp2_with fail
          refine (H1 _).mono ?_
          rintro e w2 ⟨rfl, he⟩
          obtain rfl := he.symm
          clear H1
          go_wp2_with (apply wp_goto; change On _ _ _ _ _ _)
          have hzE := HZZ.out
          subst hzE
          exact on_all (JNe w g s q R) (next_step w g s q R hs) 2 1 _ _ ⟨q + 1, 6, _, ⟨rfl, rfl, rfl, rfl, rfl, rfl, rfl⟩, HW1.out.set (q + 1) (by omega) (by omega), .inr (.inr (.inl ⟨rfl, rfl, by rw [HR.out, Nat.add_sub_cancel_left]⟩))⟩
        · have hd2 : ((c.toNat : Int) == 48) = false := by simp; omega
          have H2 := fun wx => isDigit_any (c.toNat : Int) wx
          have e2 : (decide (48 ≤ (c.toNat : Int)) && decide ((c.toNat : Int) ≤ 57)) = digitB c := by
            unfold digitB
            rw [Bool.eq_iff_iff]; simp only [Bool.and_eq_true, decide_eq_true_eq]; omega
          rw [e2] at H2
          clear e2
          cases h2 : digitB c with
          | true =>
            rw [tok_digits h34 h1 h48 h2, ← HDC.out] at hR
            rw [h2] at H2
            have HR := Lib.hid hR
            clear hR h34 h1 h48 h2 hgc
            go_wp2_with fail
            refine (H1 _).mono ?_
            rintro e w2 ⟨rfl, he⟩
            obtain rfl := he.symm
            clear H1
            go_wp2_with fail
            refine (H2 _).mono ?_
            rintro e w2 ⟨rfl, he⟩
            obtain rfl := he.symm
            clear H2
            go_wp2_with (apply wp_goto; change On _ _ _ _ _ _)
            have hzE := HZZ.out
            subst hzE
            exact on_all (JNe w g s q R) (next_step w g s q R hs) _ 2 _ _ ⟨q, 6, _, ⟨rfl, rfl, rfl, rfl, rfl, rfl, rfl⟩, HW1.out, .inr (.inr (.inr (.inr (.inl ⟨rfl, rfl, by omega, by rw [HR.out, Nat.sub_self, Nat.zero_add]⟩))))⟩
          | false =>
            rw [h2] at H2
            have H3 := fun wx (hx : Nst w g s q q wx) => standsR_any g { s with p := q } ⟨#[85, 43]⟩ wx hx.pb hqs hs
            simp only [stands_iff2] at H3
            by_cases h4 : ((tl s.src).drop q).take 2 = [85, 43]
            · have h4' := h4
              rw [HDC.out] at h4'
              rw [tok_rune h34 h1 h48 h2 h4', ← HDC.out] at hR
              simp only [decide_eq_true h4] at H3
              have hq2 : q + 2 ≤ s.src.size := by
                have := congrArg List.length h4
                simp at this
                omega
              have HR : Hid (digB R ((tl s.src).drop q) (tl s.src) q (q + 2)) := Lib.hid ⟨((tl s.src).drop (q + 2)).takeWhile capB, (fun c hc => List.all_eq_true.1 List.all_takeWhile c hc), by rw [hR, List.drop_drop], by simp⟩
              clear hR h34 h1 h48 h2 h4 h4' hgc
              go_wp2_with fail
              refine (H1 _).mono ?_
              rintro e w2 ⟨rfl, he⟩
              obtain rfl := he.symm
              clear H1
              go_wp2_with fail
              refine (H2 _).mono ?_
              rintro e w2 ⟨rfl, he⟩
              obtain rfl := he.symm
              clear H2
              go_wp2_with fail
              refine (H3 _ (by exact HW1.out)).mono ?_
              rintro e wb ⟨rfl, hbb⟩
              have HW1 := Lib.hid (HW1.out.adv hbb)
              have c1 := HW1.out.pb.c1
              have f1 := HW1.out.pb.free 1
              simp only at c1
              clear H3 hbb
              go_wp2_with (apply wp_goto; change On _ _ _ _ _ _)
              have hzE := HZZ.out
              subst hzE
              exact on_all (JNe w g s q R) (next_step w g s q R hs) _ 3 _ _ ⟨q + 2, 6, _, ⟨rfl, rfl, rfl, rfl, rfl, rfl, rfl⟩, HW1.out.set (q + 2) (by omega) hq2, .inr (.inr (.inr (.inr (.inr ⟨rfl, rfl, Nat.le_refl _, rfl, HR.out⟩))))⟩
            · simp only [decide_eq_false h4] at H3
              have h4' := h4
              rw [HDC.out] at h4'
              have H4 := fun wx (hx : Nst w g s q q wx) => standsR_any g { s with p := q } ⟨#[46, 46]⟩ wx hx.pb hqs hs
              simp only [stands_iff2] at H4
              by_cases h5 : ((tl s.src).drop q).take 2 = [46, 46]
              · have h5' := h5
                rw [HDC.out] at h5'
                rw [tok_to h34 h1 h48 h2 h4' h5', ← HDC.out] at hR
                simp only [decide_eq_true h5] at H4
                have hq2 : q + 2 ≤ s.src.size := by
                  have := congrArg List.length h5
                  simp at this
                  omega
                have HR := Lib.hid hR
                clear hR h34 h1 h48 h2 h4 h4' h5 h5' hgc
                go_wp2_with fail
                refine (H1 _).mono ?_
                rintro e w2 ⟨rfl, he⟩
                obtain rfl := he.symm
                clear H1
                go_wp2_with fail
                refine (H2 _).mono ?_
                rintro e w2 ⟨rfl, he⟩
                obtain rfl := he.symm
                clear H2
                go_wp2_with fail
                refine (H3 _ (by exact HW1.out)).mono ?_
                rintro e wb ⟨rfl, hbb⟩
                have HW1 := Lib.hid (HW1.out.adv hbb)
                have c1 := HW1.out.pb.c1
                have f1 := HW1.out.pb.free 1
                simp only at c1
                clear H3 hbb
                go_wp2_with fail
                refine (H4 _ (by exact HW1.out)).mono ?_
                rintro e wb ⟨rfl, hbb⟩
                have HW1 := Lib.hid (HW1.out.adv hbb)
                have c1 := HW1.out.pb.c1
                have f1 := HW1.out.pb.free 1
                simp only at c1
                clear H4 hbb
                go_wp2_with (apply wp_goto; change On _ _ _ _ _ _)
                have hzE := HZZ.out
                subst hzE
                exact on_all (JNe w g s q R) (next_step w g s q R hs) 0 4 _ _ ⟨q + 2, 5, _, ⟨rfl, rfl, rfl, rfl, rfl, rfl, rfl⟩, HW1.out.set (q + 2) (by omega) hq2, .inl ⟨rfl, rfl, by rw [HR.out, Nat.add_sub_cancel_left]⟩⟩
              · simp only [decide_eq_false h5] at H4
                have h5' := h5
                rw [HDC.out] at h5'
                have H5 := fun wx => isOneOf_any (c.toNat : Int) signS (by omega) (by omega) wx
                rw [oneI_sign] at H5
                by_cases h6 : c.toNat = 123 ∨ c.toNat = 125 ∨ c.toNat = 43 ∨ c.toNat = 61
                · rw [tok_sign h34 h1 h48 h2 h4' h5' h6, ← HDC.out] at hR
                  rw [decide_eq_true h6] at H5
                  have HR := Lib.hid hR
                  clear hR h34 h1 h48 h2 h4 h4' h5 h5' h6 hgc
                  go_wp2_with fail
                  refine (H1 _).mono ?_
                  rintro e w2 ⟨rfl, he⟩
                  obtain rfl := he.symm
                  clear H1
                  go_wp2_with fail
                  refine (H2 _).mono ?_
                  rintro e w2 ⟨rfl, he⟩
                  obtain rfl := he.symm
                  clear H2
                  go_wp2_with fail
                  refine (H3 _ (by exact HW1.out)).mono ?_
                  rintro e wb ⟨rfl, hbb⟩
                  have HW1 := Lib.hid (HW1.out.adv hbb)
                  have c1 := HW1.out.pb.c1
                  have f1 := HW1.out.pb.free 1
                  simp only at c1
                  clear H3 hbb
                  go_wp2_with fail
                  refine (H4 _ (by exact HW1.out)).mono ?_
                  rintro e wb ⟨rfl, hbb⟩
                  have HW1 := Lib.hid (HW1.out.adv hbb)
                  have c1 := HW1.out.pb.c1
                  have f1 := HW1.out.pb.free 1
                  simp only at c1
                  clear H4 hbb
                  go_wp2_with fail
                  refine (H5 _).mono ?_
                  rintro e w2 ⟨rfl, he⟩
                  obtain rfl := he.symm
                  clear H5
                  go_wp2_with (apply wp_goto; change On _ _ _ _ _ _)
                  have hzE := HZZ.out
                  subst hzE
                  exact on_all (JNe w g s q R) (next_step w g s q R hs) 0 4 _ _ ⟨q + 1, 5, _, ⟨rfl, rfl, rfl, rfl, rfl, rfl, rfl⟩, HW1.out.set (q + 1) (by omega) (by omega), .inl ⟨rfl, rfl, by rw [HR.out, Nat.add_sub_cancel_left]⟩⟩
                · rw [tok_none h34 h1 h48 h2 h4' h5' h6] at hR
                  rw [decide_eq_false h6] at H5
                  have HR := Lib.hid hR
                  clear hR h34 h1 h48 h2 h4 h4' h5 h5' h6 hgc
                  go_wp2_with fail
                  refine (H1 _).mono ?_
                  rintro e w2 ⟨rfl, he⟩
                  obtain rfl := he.symm
                  clear H1
                  go_wp2_with fail
                  refine (H2 _).mono ?_
                  rintro e w2 ⟨rfl, he⟩
                  obtain rfl := he.symm
                  clear H2
                  go_wp2_with fail
                  refine (H3 _ (by exact HW1.out)).mono ?_
                  rintro e wb ⟨rfl, hbb⟩
                  have HW1 := Lib.hid (HW1.out.adv hbb)
                  have c1 := HW1.out.pb.c1
                  have f1 := HW1.out.pb.free 1
                  simp only at c1
                  clear H3 hbb
                  go_wp2_with fail
                  refine (H4 _ (by exact HW1.out)).mono ?_
                  rintro e wb ⟨rfl, hbb⟩
                  have HW1 := Lib.hid (HW1.out.adv hbb)
                  have c1 := HW1.out.pb.c1
                  have f1 := HW1.out.pb.free 1
                  simp only at c1
                  clear H4 hbb
                  go_wp2_with fail
                  refine (H5 _).mono ?_
                  rintro e w2 ⟨rfl, he⟩
                  obtain rfl := he.symm
                  clear H5
                  go_wp2_with (apply wp_goto; change On _ _ _ _ _ _)
                  have hzE := HZZ.out
                  subst hzE
                  exact on_all (JNe w g s q R) (next_step w g s q R hs) 0 4 _ _ ⟨q, 6, _, ⟨rfl, rfl, rfl, rfl, rfl, rfl, rfl⟩, HW1.out, .inl ⟨rfl, rfl, by rw [HR.out, Nat.sub_self]; rfl⟩⟩
  · rw [hereI_end (by omega)]
    rw [List.drop_of_length_le (by omega)] at hR
    have HR := Lib.hid hR
    clear hR
    go_wp2_with (apply wp_goto; change On _ _ _ _ _ _)
    have hzE := HZZ.out
    subst hzE
    exact on_all (JNe w g s q R) (next_step w g s q R hs) 0 4 _ _ ⟨q, 8, _, ⟨rfl, rfl, rfl, rfl, rfl, rfl, rfl⟩, HW1.out, .inl ⟨rfl, rfl, by rw [HR.out, Nat.sub_self]; rfl⟩⟩
end Go.Proofs.Ytonbfcpbgkpbaaa
