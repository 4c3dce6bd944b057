/- recipe's parser.rules: its contract. -/
import Derived.Test.YtonbfcpbgkpbaaaQRulesM
namespace Go.Proofs.Ytonbfcpbgkpbaaa
open Go.RowKit Go.Sort Go.Joins
set_option linter.unusedVariables false
set_option linter.unusedSimpArgs false
set_option maxRecDepth 100000
theorem text_eq (s l : List UInt8) : ((textOf s).toList == (textOf l).toList) = decide (s = l) := by
  rw [text_list, text_list]
  rw [Bool.eq_iff_iff]
  simp
theorem take_names (g : Nat) (src : ByteArray) (st : PS) (d : DV) (w : World) (h : PX w g src st d) (hs : src.size ≤ 4194304) :
    Calls Try.prog 42 #[.pointer (some ⟨g, 0, none⟩), .int .i64 1, .slice (some ⟨w.heap.size, 0, none⟩) 4 4] (w.alloc (.cells #[.string { data := #[109, 101, 114, 103, 101] }, .string { data := #[108, 101, 116, 116, 101, 114, 115] }, .string { data := #[110, 117, 109, 98, 101, 114, 115] }, .string { data := #[115, 112, 97, 99, 101, 115] }] 9)) (TakePost w g src d (takeP nameM st)) := by
  have hb := box_below w (.cells #[.string { data := #[109, 101, 114, 103, 101] }, .string { data := #[108, 101, 116, 116, 101, 114, 115] }, .string { data := #[110, 117, 109, 98, 101, 114, 115] }, .string { data := #[115, 112, 97, 99, 101, 115] }] 9)
  have hT := take_any g src st d 1 (some ⟨w.heap.size, 0, none⟩) 4 [textOf sMerge, textOf sLetters, textOf sNumbers, textOf sSpaces] (w.alloc (.cells #[.string { data := #[109, 101, 114, 103, 101] }, .string { data := #[108, 101, 116, 116, 101, 114, 115] }, .string { data := #[110, 117, 109, 98, 101, 114, 115] }, .string { data := #[115, 112, 97, 99, 101, 115] }] 9)) (h.below hb h.lt) (texts_new w [textOf sMerge, textOf sLetters, textOf sNumbers, textOf sSpaces]) (by simp) hs (by omega)
  rw [mW_of 1 _ (by simp)] at hT
  refine hT.mono ?_
  rintro e w' ⟨rfl, h1, h2⟩
  exact ⟨rfl, h1, (But.of_below hb).trans (h2.mono hb.size)⟩
theorem Bu.toBut {g B base : Nat} {ob : Option Nat} {w w' : World} (h : Bu g ob B w w') (hob : ∀ i, ob = some i → base ≤ i) (hB : base ≤ B) : But g base w w' :=
  ⟨h.os, h.tape, h.output, h.size, fun k hk hkg => h.block k (by omega) hkg (fun e => by have := hob k e.symm; omega)⟩
theorem ruleP_merge {st : PS} {r : RD} (h : (takeP nameM st).1.s = sMerge) : ruleP st r = ({ r with M := r.M ++ [(mergeP (takeP nameM st).2).1] }, (mergeP (takeP nameM st).2).2) := by
  unfold ruleP
  simp only
  rw [if_pos h]
theorem ruleP_span {st : PS} {r : RD} {o : Nat} (ho : (o = 8 ∧ (takeP nameM st).1.s = sLetters) ∨ (o = 9 ∧ (takeP nameM st).1.s = sNumbers) ∨ (o = 10 ∧ (takeP nameM st).1.s = sSpaces)) : ruleP st r = (r.add o (spansP (takeP nameM st).2).1, (spansP (takeP nameM st).2).2) := by
  unfold ruleP
  simp only
  rcases ho with ⟨rfl, h⟩ | ⟨rfl, h⟩ | ⟨rfl, h⟩
  · rw [h, if_neg (by decide), if_pos rfl]; rfl
  · rw [h, if_neg (by decide), if_neg (by decide), if_pos rfl]; rfl
  · rw [h, if_neg (by decide), if_neg (by decide), if_neg (by decide), if_pos rfl]; rfl
theorem ruleP_no {st : PS} {r : RD} (h : (takeP nameM st).1 = zeroT) : ruleP st r = (r, (takeP nameM st).2) := by
  unfold ruleP
  simp only
  rw [h, if_neg (by decide), if_neg (by decide), if_neg (by decide), if_neg (by decide)]
/-- What is taken as a rule's name. -/
theorem name_cases (st : PS) : ((takeP nameM st).1 = zeroT ∧ (takeP nameM st).2.1 = true) ∨ (((takeP nameM st).1.s = sMerge ∨ (takeP nameM st).1.s = sLetters ∨ (takeP nameM st).1.s = sNumbers ∨ (takeP nameM st).1.s = sSpaces) ∧ meetP nameM st = true) := by
  obtain ⟨bad, ts⟩ := st
  cases ts with
  | nil => cases bad <;> exact .inl ⟨rfl, rfl⟩
  | cons t ts =>
    cases bad with
    | true => exact .inl ⟨rfl, rfl⟩
    | false =>
      show ((if nameM t = true then (t, (false, ts)) else (zeroT, (true, t :: ts))).1 = zeroT ∧ (if nameM t = true then (t, (false, ts)) else (zeroT, (true, t :: ts))).2.1 = true) ∨ _
      by_cases hm : nameM t = true
      · refine .inr ⟨?_, hm⟩
        show (if nameM t = true then (t, (false, ts)) else (zeroT, (true, t :: ts))).1.s = _ ∨ (if nameM t = true then (t, (false, ts)) else (zeroT, (true, t :: ts))).1.s = _ ∨ (if nameM t = true then (t, (false, ts)) else (zeroT, (true, t :: ts))).1.s = _ ∨ (if nameM t = true then (t, (false, ts)) else (zeroT, (true, t :: ts))).1.s = _
        rw [if_pos hm]
        unfold nameM mOf at hm
        rw [Bool.and_eq_true] at hm
        have h2 := hm.2
        simp only [List.contains_cons, List.contains_nil, Bool.or_false, Bool.or_eq_true, beq_iff_eq] at h2
        exact h2
      · rw [if_neg hm]
        exact .inl ⟨rfl, rfl⟩
def dv0 : DV := ⟨.slice none 0 0, .slice none 0 0, .slice none 0 0, .slice none 0 0, .slice none 0 0, .slice none 0 0⟩
def RulesPost (w : World) (g : Nat) (src : ByteArray) (e : Ending) (w' : World) : Prop :=
  e = .returned (.tuple #[]) ∧ ∃ d, PX w' g src (rulesF (rest (tl src) 0).length (false, rest (tl src) 0) ⟨[], [], [], []⟩).2 d ∧ DO w' w.heap.size d (rulesF (rest (tl src) 0).length (false, rest (tl src) 0) ⟨[], [], [], []⟩).1 ∧ But g w.heap.size w w' ∧ Toks (rulesF (rest (tl src) 0).length (false, rest (tl src) 0) ⟨[], [], [], []⟩).2 ∧ (rulesF (rest (tl src) 0).length (false, rest (tl src) 0) ⟨[], [], [], []⟩).1.le 4194305
set_option maxHeartbeats 2000000 in
theorem rules_any (g : Nat) (src : ByteArray) (w : World) (h : PB w g ⟨src, 0, 0, 0, ⟨#[]⟩, .slice none 0 0, .slice none 0 0, .slice none 0 0, .slice none 0 0, .slice none 0 0, .slice none 0 0, 0, 0⟩) (hs : src.size ≤ 4194304) :
    Calls Try.prog 26 #[.pointer (some ⟨g, 0, none⟩)] w (RulesPost w g src) := by
  have hlt := h.lt
  have HN := next_any g _ w h (Nat.zero_le _) hs
  simp only at HN
  obtain ⟨q, hq⟩ : ∃ q, q = 0 + skipN false ((tl src).drop 0) := ⟨_, rfl⟩
  rw [← hq] at HN
  obtain ⟨R, hR⟩ : ∃ R, R = tokL ((tl src).drop q) := ⟨_, rfl⟩
  rw [← hR] at HN
  have HQ := Lib.hid hq
  have HRR := Lib.hid hR
  have hN := rest_length (tl src) 0
  rw [tl_len] at hN
  obtain ⟨st0, hst0⟩ : ∃ st, st = rest (tl src) 0 := ⟨_, rfl⟩
  have HPO : Hid (∀ e w', (e = .returned (.tuple #[]) ∧ ∃ d, PX w' g src (rulesF st0.length (false, st0) ⟨[], [], [], []⟩).2 d ∧ DO w' w.heap.size d (rulesF st0.length (false, st0) ⟨[], [], [], []⟩).1 ∧ But g w.heap.size w w' ∧ Toks (rulesF st0.length (false, st0) ⟨[], [], [], []⟩).2 ∧ (rulesF st0.length (false, st0) ⟨[], [], [], []⟩).1.le 4194305) → RulesPost w g src e w') := Lib.hid (fun e w' hh => by unfold RulesPost; rw [← hst0]; exact hh)
  rw [← hst0] at hN
  have HST := Lib.hid hst0
  clear hq hR hst0 h
  go_enter Try.func26, Try.ntmps26
  go_wp2_with fail
  refine HN.mono ?_
  rintro e w1 ⟨p, rfl, hp5, hps, hP1, hb1⟩
  have x2 := hP1.c2
  have x3 := hP1.c3
  have x4 := hP1.c4
  have fg := fun j => hP1.free j
  have hP2 := hP1.three' R.1 q (textOf R.2.2)
  have hPX : PX (((w1.setCell ⟨g, 2, none⟩ (.int .i64 (R.1 : Nat))).setCell ⟨g, 3, none⟩ (.int .i64 (q : Nat))).setCell ⟨g, 4, none⟩ (.string (textOf R.2.2))) g src (false, st0) dv0 := by
    refine ⟨_, hP2, ?_, rfl⟩
    refine ⟨rfl, ?_⟩
    rw [HST.out, rest_eq]
    have hta : tokAt (tl src) 0 = ⟨R.1, q, R.2.2⟩ := by unfold tokAt; rw [HRR.out, HQ.out]
    have hte : R.1 ≤ 5 → tokEnd (tl src) 0 = p := fun h => by rw [hp5 h, HRR.out, HQ.out]; unfold tokEnd; rfl
    rw [hta]
    refine ⟨rfl, rfl, rfl, rfl, rfl, hps, ?_⟩
    show (if R.1 ≤ 5 then _ else _) = (if R.1 ≤ 5 then _ else _)
    by_cases h5 : R.1 ≤ 5
    · rw [if_pos h5, if_pos h5, hte h5]
    · rw [if_neg h5, if_neg h5]
  have hB2 := ((hb1.setCell 2 (.int .i64 (R.1 : Nat))).setCell 3 (.int .i64 (q : Nat))).setCell 4 (.string (textOf R.2.2))
  have HPX := Lib.hid hPX
  have HB2 := Lib.hid hB2
  clear HN hP1 hb1 hp5 hP2 hPX hB2
  go_wp2_with fail
  go_loopg [] st0.length (fun k wr => RuI w g w.heap.size src (false, st0) st0.length 4194305 k wr)
  case atStart => exact ⟨(false, st0), ⟨[], [], [], []⟩, dv0, HPX.out, ⟨OwnG.nil _ _ _ _ _, OwnG.nil _ _ _ _ _, OwnG.nil _ _ _ _ _, OwnG.nil _ _ _ _ _, (fun i hi => by cases hi), (fun i hi => by cases hi), (fun i hi => by cases hi), rfl, rfl⟩, HB2.out, (fun t ht => by rw [HST.out] at ht; exact strm_ok _ _ _ t ht), fun _ => Nat.le_refl _, ⟨Nat.zero_le _, Nat.zero_le _, Nat.zero_le _, Nat.zero_le _⟩, by simp only; omega, rfl⟩
  case round =>
    obtain ⟨st, r, d, hP, hD, hB, hT, hf, hle, hN2, hru⟩ := hrel
    clear x2 x3 x4 fg
    have HPP := Lib.hid hP
    have HD := Lib.hid hD
    have HB := Lib.hid hB
    have HT := Lib.hid hT
    have HF := Lib.hid hf
    have HLE := Lib.hid hle
    have HRU := Lib.hid hru
    obtain ⟨z, hz, ⟨hsrc, hrel2⟩, hdv⟩ := hP
    have c11 := hz.c11
    have c2 := hz.c2
    clear hD hB hT hf hle hru hdv hz hsrc
    obtain ⟨bad, ts⟩ := st
    cases ts with
    | nil => cases bad <;> exact hrel2.elim
    | cons t ts =>
      cases bad with
      | true =>
        obtain ⟨hk, ht, hss, hr, -⟩ := hrel2
        have hwy : ((z.why : Int) == 0) = false := by
          have h1 := refT_why src.size t
          rw [← hr] at h1
          have h2 : z.why ≠ 0 := h1
          simp
          omega
        generalize z.why = wy at *
        clear hk ht hss hr c2
        go_wp2_with fail
        refine bodyPost_end (results_none rfl _ _ _) rfl ?_
        refine HPO.out _ _ ?_
        have e := HRU.out
        rw [rulesF_bad] at e
        rw [e]
        exact ⟨rfl, d, HPP.out, HD.out, HB.out, HT.out, ⟨Nat.le_trans HLE.out.1 (Nat.sub_le _ _), Nat.le_trans HLE.out.2.1 (Nat.sub_le _ _), Nat.le_trans HLE.out.2.2.1 (Nat.sub_le _ _), Nat.le_trans HLE.out.2.2.2 (Nat.sub_le _ _)⟩⟩
      | false =>
        obtain ⟨hk, ht, hss, hwy, -⟩ := hrel2
        rw [hwy] at c11
        rw [hk] at c2
        clear hk ht hss hwy
        by_cases h8 : t.k = 8
        · have hd8 : ((t.k : Int) != 8) = false := by simp [h8]
          have HH8 : Hid (headK (false, t :: ts) = 8) := Lib.hid h8
          generalize t.k = tk at *
          clear h8
          go_wp2_with fail
          refine bodyPost_end (results_none rfl _ _ _) rfl ?_
          refine HPO.out _ _ ?_
          have e := HRU.out
          rw [rulesF_end _ _ _ HH8.out] at e
          rw [e]
          exact ⟨rfl, d, HPP.out, HD.out, HB.out, HT.out, ⟨Nat.le_trans HLE.out.1 (Nat.sub_le _ _), Nat.le_trans HLE.out.2.1 (Nat.sub_le _ _), Nat.le_trans HLE.out.2.2.1 (Nat.sub_le _ _), Nat.le_trans HLE.out.2.2.2 (Nat.sub_le _ _)⟩⟩
        · have hd8 : ((t.k : Int) != 8) = true := by simp; omega
          have hgk : 1 ≤ gk := by have := HF.out rfl; simp only [List.length_cons] at this; omega
          obtain ⟨f, hfk⟩ : ∃ f, gk = f + 1 := ⟨gk - 1, by omega⟩
          have HFK := Lib.hid hfk
          have HNX := Lib.hid (rulesF_next f (false, t :: ts) r rfl h8)
          have hnc := name_cases (false, t :: ts)
          have HTN := take_names g src (false, t :: ts) d wr HPP.out hs
          have htk := (HT.out.take nameM).1
          have htl := take_length nameM (false, t :: ts)
          have hless : meetP nameM (false, t :: ts) = true → _ := take_less (m := nameM) (st := (false, t :: ts))
          have HRM : Hid ((takeP nameM (false, t :: ts)).1.s = sMerge → ruleP (false, t :: ts) r = ({ r with M := r.M ++ [(mergeP (takeP nameM (false, t :: ts)).2).1] }, (mergeP (takeP nameM (false, t :: ts)).2).2)) := Lib.hid ruleP_merge
          have HRS : Hid (∀ o, ((o = 8 ∧ (takeP nameM (false, t :: ts)).1.s = sLetters) ∨ (o = 9 ∧ (takeP nameM (false, t :: ts)).1.s = sNumbers) ∨ (o = 10 ∧ (takeP nameM (false, t :: ts)).1.s = sSpaces)) → ruleP (false, t :: ts) r = (r.add o (spansP (takeP nameM (false, t :: ts)).2).1, (spansP (takeP nameM (false, t :: ts)).2).2)) := Lib.hid (fun o ho => ruleP_span ho)
          have HRN : Hid ((takeP nameM (false, t :: ts)).1 = zeroT → ruleP (false, t :: ts) r = (r, (takeP nameM (false, t :: ts)).2)) := Lib.hid ruleP_no
          obtain ⟨⟨a, st1⟩, ha⟩ : ∃ x, x = takeP nameM (false, t :: ts) := ⟨_, rfl⟩
          rw [← ha] at hnc HTN htk hless htl HRM HRS HRN
          simp only at hnc htk hless HRM HRS HRN
          generalize hst : ((false, t :: ts) : PS) = st at *
          have hfd := fun a b s wx => field_text a b s wx
          have HLS := Lib.hid hless
          have HTL := Lib.hid htl
          have hk8 := h8
          generalize t.k = tk at *
          have HTOK := Lib.hid htk
          have hN3 : st.2.length ≤ gk := HF.out (by rw [← hst])
          have hll : (t :: ts).length = st.2.length := by rw [← hst]
          clear ha hless h8 hk8 hst hfk htk htl
          rcases hnc with ⟨rfl, hbad⟩ | ⟨hnm, hmeet⟩
          · have HBAD := Lib.hid hbad
            have HRN2 := Lib.hid (HRN.out rfl)
            clear hbad
            go_wp2_with fail
            refine HTN.mono ?_
            rintro e w2 ⟨rfl, hP2, hb2⟩
            have hD2 := HD.out.but hb2 (Nat.le_refl _) hlt
            have hB2 := HB.out.trans (hb2.mono HB.out.size)
            rw [show tokV (zeroT, st1).1 = .agg #[.int .i64 0, .int .i64 0, .string ⟨#[]⟩] from rfl]
            clear HTN hb2
            go_wp2_with fail
            go_roundg f
            case measure => have := HFK.out; omega
            case rel =>
              obtain ⟨b1, ts1⟩ := st1
              have hb1 : b1 = true := HBAD.out
              subst hb1
              have hl2 : ts1.length ≤ st.2.length := HTL.out
              refine ⟨(true, ts1), r, d, hP2, hD2, hB2, HTOK.out, (fun h => by cases h), ?_, ?_, ?_⟩
              · have := HLE.out
                exact ⟨Nat.le_trans this.1 (by simp only; omega), Nat.le_trans this.2.1 (by simp only; omega), Nat.le_trans this.2.2.1 (by simp only; omega), Nat.le_trans this.2.2.2 (by simp only; omega)⟩
              · simp only; omega
              · rw [HRU.out, HFK.out, HNX.out, HRN2.out]
          · rcases hnm with hn | hn | hn | hn
            · have f0 : ((textOf a.s).toList == ([109, 101, 114, 103, 101] : List UInt8)) = true := by rw [text_list, hn]; decide
              have hls := HLS.out hmeet

              obtain ⟨x, hx⟩ : ∃ x, x = textOf a.s := ⟨_, rfl⟩
              rw [← hx] at f0
              have HTV : Hid (tokV (a, st1).1 = .agg #[.int .i64 (a.k : Nat), .int .i64 (a.at' : Nat), .string x]) := Lib.hid (by rw [hx]; rfl)
              have HN := Lib.hid hn
              clear hx hn hmeet
              go_wp2_with fail
              refine HTN.mono ?_
              rintro e w2 ⟨rfl, hP2, hb2⟩
              have hD2 := HD.out.but hb2 (Nat.le_refl _) hlt
              have hB2 := HB.out.trans (hb2.mono HB.out.size)
              have hle := HLE.out
              rw [HTV.out]
              have hP2 : PX w2 g src st1 d := hP2
              have HME := merge_any g w.heap.size src st1 d r.M w2 hP2 HTOK.out hs hD2.oM hlt hB2.size (by have := hle.1; omega)
              have HD2 := Lib.hid hD2
              have HB2' := Lib.hid hB2
              have HLE2 := Lib.hid hle
              clear HTN hb2 hP2 hD2 hB2 hle
              go_wp2_with fail
              refine HME.mono ?_
              rintro e w3 ⟨rfl, v, hP3, hO3, hBu, hM3, hT3⟩
              clear HME
              go_wp2_with fail
              go_roundg f
              case measure => have := HFK.out; omega
              case rel =>
                have hml := mergeP_length st1
                have hle := HLE2.out
                refine ⟨(mergeP st1).2, { r with M := r.M ++ [(mergeP st1).1] }, { d with M := v }, hP3, HD2.out.merge hO3 hBu hlt, HB2'.out.trans (hBu.toBut (fun i hi => (HD2.out.oM.block hi).1) HB2'.out.size), hT3, (fun _ => by have := HFK.out; omega), ⟨?_, ?_, ?_, ?_⟩, by omega, ?_⟩
                · show (r.M ++ [(mergeP st1).1]).length ≤ _
                  rw [List.length_append]
                  have := hle.1
                  simp only [List.length_cons, List.length_nil]
                  omega
                · have := hle.2.1; show r.A.length ≤ _; omega
                · have := hle.2.2.1; show r.B.length ≤ _; omega
                · have := hle.2.2.2; show r.C.length ≤ _; omega
                · rw [HRU.out, HFK.out, HNX.out, HRM.out HN.out]
            · have f0 : ((textOf a.s).toList == ([109, 101, 114, 103, 101] : List UInt8)) = false := by rw [text_list, hn]; decide
              have f1 : ((textOf a.s).toList == ([108, 101, 116, 116, 101, 114, 115] : List UInt8)) = true := by rw [text_list, hn]; decide
              have hls := HLS.out hmeet

              obtain ⟨x, hx⟩ : ∃ x, x = textOf a.s := ⟨_, rfl⟩
              rw [← hx] at f0 f1
              have HTV : Hid (tokV (a, st1).1 = .agg #[.int .i64 (a.k : Nat), .int .i64 (a.at' : Nat), .string x]) := Lib.hid (by rw [hx]; rfl)
              have HN := Lib.hid hn
              clear hx hn hmeet
              go_wp2_with fail
              refine HTN.mono ?_
              rintro e w2 ⟨rfl, hP2, hb2⟩
              have hD2 := HD.out.but hb2 (Nat.le_refl _) hlt
              have hB2 := HB.out.trans (hb2.mono HB.out.size)
              have hle := HLE.out
              rw [HTV.out]
              have hP2 : PX w2 g src st1 d := hP2
              have HME := spans_any g w.heap.size 8 (by omega) src st1 d (r.get 8) w2 hP2 HTOK.out hs (hD2.own (o := 8) (by omega)) hlt hB2.size (by have := hle.2.1; show r.A.length + _ ≤ _; omega)
              have HD2 := Lib.hid hD2
              have HB2' := Lib.hid hB2
              have HLE2 := Lib.hid hle
              clear HTN hb2 hP2 hD2 hB2 hle
              go_wp2_with fail
              refine HME.mono ?_
              rintro e w3 ⟨rfl, v, hP3, hO3, hBu, hM3, hT3⟩
              clear HME
              go_wp2_with fail
              go_roundg f
              case measure => have := HFK.out; omega
              case rel =>
                have hml := spansP_length st1
                have hle := HLE2.out
                refine ⟨(spansP st1).2, r.add 8 (spansP st1).1, d.set 8 v, hP3, HD2.out.span (o := 8) (by omega) hO3 hBu hM3 hlt, HB2'.out.trans (hBu.toBut (fun i hi => ((HD2.out.own (o := 8) (by omega)).block hi).1) HB2'.out.size), hT3, (fun _ => by have := HFK.out; omega), ⟨?_, ?_, ?_, ?_⟩, by omega, ?_⟩
                · have := hle.1; show r.M.length ≤ _; omega
                · have := hle.2.1; show (r.A ++ (spansP st1).1).length ≤ _; rw [List.length_append]; omega
                · have := hle.2.2.1; show r.B.length ≤ _; omega
                · have := hle.2.2.2; show r.C.length ≤ _; omega
                · rw [HRU.out, HFK.out, HNX.out, HRS.out 8 (.inl ⟨rfl, HN.out⟩)]
            · have f0 : ((textOf a.s).toList == ([109, 101, 114, 103, 101] : List UInt8)) = false := by rw [text_list, hn]; decide
              have f1 : ((textOf a.s).toList == ([108, 101, 116, 116, 101, 114, 115] : List UInt8)) = false := by rw [text_list, hn]; decide
              have f2 : ((textOf a.s).toList == ([110, 117, 109, 98, 101, 114, 115] : List UInt8)) = true := by rw [text_list, hn]; decide
              have hls := HLS.out hmeet

              obtain ⟨x, hx⟩ : ∃ x, x = textOf a.s := ⟨_, rfl⟩
              rw [← hx] at f0 f1 f2
              have HTV : Hid (tokV (a, st1).1 = .agg #[.int .i64 (a.k : Nat), .int .i64 (a.at' : Nat), .string x]) := Lib.hid (by rw [hx]; rfl)
              have HN := Lib.hid hn
              clear hx hn hmeet
              go_wp2_with fail
              refine HTN.mono ?_
              rintro e w2 ⟨rfl, hP2, hb2⟩
              have hD2 := HD.out.but hb2 (Nat.le_refl _) hlt
              have hB2 := HB.out.trans (hb2.mono HB.out.size)
              have hle := HLE.out
              rw [HTV.out]
              have hP2 : PX w2 g src st1 d := hP2
              have HME := spans_any g w.heap.size 9 (by omega) src st1 d (r.get 9) w2 hP2 HTOK.out hs (hD2.own (o := 9) (by omega)) hlt hB2.size (by have := hle.2.2.1; show r.B.length + _ ≤ _; omega)
              have HD2 := Lib.hid hD2
              have HB2' := Lib.hid hB2
              have HLE2 := Lib.hid hle
              clear HTN hb2 hP2 hD2 hB2 hle
              go_wp2_with fail
              refine HME.mono ?_
              rintro e w3 ⟨rfl, v, hP3, hO3, hBu, hM3, hT3⟩
              clear HME
              go_wp2_with fail
              go_roundg f
              case measure => have := HFK.out; omega
              case rel =>
                have hml := spansP_length st1
                have hle := HLE2.out
                refine ⟨(spansP st1).2, r.add 9 (spansP st1).1, d.set 9 v, hP3, HD2.out.span (o := 9) (by omega) hO3 hBu hM3 hlt, HB2'.out.trans (hBu.toBut (fun i hi => ((HD2.out.own (o := 9) (by omega)).block hi).1) HB2'.out.size), hT3, (fun _ => by have := HFK.out; omega), ⟨?_, ?_, ?_, ?_⟩, by omega, ?_⟩
                · have := hle.1; show r.M.length ≤ _; omega
                · have := hle.2.1; show r.A.length ≤ _; omega
                · have := hle.2.2.1; show (r.B ++ (spansP st1).1).length ≤ _; rw [List.length_append]; omega
                · have := hle.2.2.2; show r.C.length ≤ _; omega
                · rw [HRU.out, HFK.out, HNX.out, HRS.out 9 (.inr (.inl ⟨rfl, HN.out⟩))]
            · have f0 : ((textOf a.s).toList == ([109, 101, 114, 103, 101] : List UInt8)) = false := by rw [text_list, hn]; decide
              have f1 : ((textOf a.s).toList == ([108, 101, 116, 116, 101, 114, 115] : List UInt8)) = false := by rw [text_list, hn]; decide
              have f2 : ((textOf a.s).toList == ([110, 117, 109, 98, 101, 114, 115] : List UInt8)) = false := by rw [text_list, hn]; decide
              have f3 : ((textOf a.s).toList == ([115, 112, 97, 99, 101, 115] : List UInt8)) = true := by rw [text_list, hn]; decide
              have hls := HLS.out hmeet

              obtain ⟨x, hx⟩ : ∃ x, x = textOf a.s := ⟨_, rfl⟩
              rw [← hx] at f0 f1 f2 f3
              have HTV : Hid (tokV (a, st1).1 = .agg #[.int .i64 (a.k : Nat), .int .i64 (a.at' : Nat), .string x]) := Lib.hid (by rw [hx]; rfl)
              have HN := Lib.hid hn
              clear hx hn hmeet
              go_wp2_with fail
              refine HTN.mono ?_
              rintro e w2 ⟨rfl, hP2, hb2⟩
              have hD2 := HD.out.but hb2 (Nat.le_refl _) hlt
              have hB2 := HB.out.trans (hb2.mono HB.out.size)
              have hle := HLE.out
              rw [HTV.out]
              have hP2 : PX w2 g src st1 d := hP2
              have HME := spans_any g w.heap.size 10 (by omega) src st1 d (r.get 10) w2 hP2 HTOK.out hs (hD2.own (o := 10) (by omega)) hlt hB2.size (by have := hle.2.2.2; show r.C.length + _ ≤ _; omega)
              have HD2 := Lib.hid hD2
              have HB2' := Lib.hid hB2
              have HLE2 := Lib.hid hle
              clear HTN hb2 hP2 hD2 hB2 hle
              go_wp2_with fail
              refine HME.mono ?_
              rintro e w3 ⟨rfl, v, hP3, hO3, hBu, hM3, hT3⟩
              clear HME
              go_wp2_with fail
              go_roundg f
              case measure => have := HFK.out; omega
              case rel =>
                have hml := spansP_length st1
                have hle := HLE2.out
                refine ⟨(spansP st1).2, r.add 10 (spansP st1).1, d.set 10 v, hP3, HD2.out.span (o := 10) (by omega) hO3 hBu hM3 hlt, HB2'.out.trans (hBu.toBut (fun i hi => ((HD2.out.own (o := 10) (by omega)).block hi).1) HB2'.out.size), hT3, (fun _ => by have := HFK.out; omega), ⟨?_, ?_, ?_, ?_⟩, by omega, ?_⟩
                · have := hle.1; show r.M.length ≤ _; omega
                · have := hle.2.1; show r.A.length ≤ _; omega
                · have := hle.2.2.1; show r.B.length ≤ _; omega
                · have := hle.2.2.2; show (r.C ++ (spansP st1).1).length ≤ _; rw [List.length_append]; omega
                · rw [HRU.out, HFK.out, HNX.out, HRS.out 10 (.inr (.inr ⟨rfl, HN.out⟩))]
end Go.Proofs.Ytonbfcpbgkpbaaa
