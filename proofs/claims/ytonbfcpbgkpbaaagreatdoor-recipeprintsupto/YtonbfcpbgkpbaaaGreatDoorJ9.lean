import Derived.Test.YtonbfcpbgkpbaaaGreatDoorJ7
import Derived.Test.YtonbfcpbgkpbaaaGreatDoorJ8
section
/- recipe's parser.rules: its contract. -/
namespace Go.Proofs.YtonbfcpbgkpbaaaGreatDoor
open Go.RowKit Go.Sort Go.Joins
set_option linter.unusedVariables false
set_option linter.unusedSimpArgs false
set_option maxRecDepth 100000
theorem text_eq (s l : List UInt8) : ((textOf s).toList == (textOf l).toList) = decide (s = l) := by
  rw [text_list, text_list]
  rw [Bool.eq_iff_iff]
  simp
theorem take_names (g : Nat) (src : ByteArray) (st : PS) (d : DV) (w : World) (h : PX w g src st d) (hs : src.size ≤ 4194304) :
    Calls Tryz.prog 55 #[.pointer (some ⟨g, 0, none⟩), .int .i64 1, .slice (some ⟨w.heap.size, 0, none⟩) 4 4] (w.alloc (.cells #[.string { data := #[109, 101, 114, 103, 101] }, .string { data := #[108, 101, 116, 116, 101, 114, 115] }, .string { data := #[110, 117, 109, 98, 101, 114, 115] }, .string { data := #[115, 112, 97, 99, 101, 115] }] 9)) (TakePost w g src d (takeP nameM st)) := by
  have hb := box_below w (.cells #[.string { data := #[109, 101, 114, 103, 101] }, .string { data := #[108, 101, 116, 116, 101, 114, 115] }, .string { data := #[110, 117, 109, 98, 101, 114, 115] }, .string { data := #[115, 112, 97, 99, 101, 115] }] 9)
  have hT := take_any g src st d 1 (some ⟨w.heap.size, 0, none⟩) 4 [textOf sMerge, textOf sLetters, textOf sNumbers, textOf sSpaces] (w.alloc (.cells #[.string { data := #[109, 101, 114, 103, 101] }, .string { data := #[108, 101, 116, 116, 101, 114, 115] }, .string { data := #[110, 117, 109, 98, 101, 114, 115] }, .string { data := #[115, 112, 97, 99, 101, 115] }] 9)) (h.below hb h.lt) (texts_new w [textOf sMerge, textOf sLetters, textOf sNumbers, textOf sSpaces]) (by simp) hs (by omega)
  rw [mW_of 1 _ (by simp)] at hT
  refine hT.mono ?_
  rintro e w' ⟨rfl, h1, h2⟩
  exact ⟨rfl, h1, (But.of_below hb).trans (h2.mono hb.size)⟩
theorem Bu.toBut {g B base : Nat} {ob : Option Nat} {w w' : World} (h : Bu g ob B w w') (hob : ∀ i, ob = some i → base ≤ i) (hB : base ≤ B) : But g base w w' :=
  ⟨h.os, h.tape, h.output, h.size, fun k hk hkg => h.block k (by omega) hkg (fun e => by have := hob k e.symm; omega)⟩
theorem ruleP_merge {st : PS} {r : RD} (h : (takeP nameM st).1.s = sMerge) : ruleP st r = ({ r with M := r.M ++ [(mergeP (takeP nameM st).2).1] }, (mergeP (takeP nameM st).2).2) := by
  unfold ruleP
  simp only
  rw [if_pos h]
theorem ruleP_span {st : PS} {r : RD} {o : Nat} (ho : (o = 8 ∧ (takeP nameM st).1.s = sLetters) ∨ (o = 9 ∧ (takeP nameM st).1.s = sNumbers) ∨ (o = 10 ∧ (takeP nameM st).1.s = sSpaces)) : ruleP st r = (r.add o (spansP (takeP nameM st).2).1, (spansP (takeP nameM st).2).2) := by
  unfold ruleP
  simp only
  rcases ho with ⟨rfl, h⟩ | ⟨rfl, h⟩ | ⟨rfl, h⟩
  · rw [h, if_neg (by decide), if_pos rfl]; rfl
  · rw [h, if_neg (by decide), if_neg (by decide), if_pos rfl]; rfl
  · rw [h, if_neg (by decide), if_neg (by decide), if_neg (by decide), if_pos rfl]; rfl
theorem ruleP_no {st : PS} {r : RD} (h : (takeP nameM st).1 = zeroT) : ruleP st r = (r, (takeP nameM st).2) := by
  unfold ruleP
  simp only
  rw [h, if_neg (by decide), if_neg (by decide), if_neg (by decide), if_neg (by decide)]
/-- What is taken as a rule's name. -/
theorem name_cases (st : PS) : ((takeP nameM st).1 = zeroT ∧ (takeP nameM st).2.1 = true) ∨ (((takeP nameM st).1.s = sMerge ∨ (takeP nameM st).1.s = sLetters ∨ (takeP nameM st).1.s = sNumbers ∨ (takeP nameM st).1.s = sSpaces) ∧ meetP nameM st = true) := by
  obtain ⟨bad, ts⟩ := st
  cases ts with
  | nil => cases bad <;> exact .inl ⟨rfl, rfl⟩
  | cons t ts =>
    cases bad with
    | true => exact .inl ⟨rfl, rfl⟩
    | false =>
      show ((if nameM t = true then (t, (false, ts)) else (zeroT, (true, t :: ts))).1 = zeroT ∧ (if nameM t = true then (t, (false, ts)) else (zeroT, (true, t :: ts))).2.1 = true) ∨ _
      by_cases hm : nameM t = true
      · refine .inr ⟨?_, hm⟩
        show (if nameM t = true then (t, (false, ts)) else (zeroT, (true, t :: ts))).1.s = _ ∨ (if nameM t = true then (t, (false, ts)) else (zeroT, (true, t :: ts))).1.s = _ ∨ (if nameM t = true then (t, (false, ts)) else (zeroT, (true, t :: ts))).1.s = _ ∨ (if nameM t = true then (t, (false, ts)) else (zeroT, (true, t :: ts))).1.s = _
        rw [if_pos hm]
        unfold nameM mOf at hm
        rw [Bool.and_eq_true] at hm
        have h2 := hm.2
        simp only [List.contains_cons, List.contains_nil, Bool.or_false, Bool.or_eq_true, beq_iff_eq] at h2
        exact h2
      · rw [if_neg hm]
        exact .inl ⟨rfl, rfl⟩
def dv0 : DV := ⟨.slice none 0 0, .slice none 0 0, .slice none 0 0, .slice none 0 0, .slice none 0 0, .slice none 0 0⟩
def RulesPost (w : World) (g : Nat) (src : ByteArray) (e : Ending) (w' : World) : Prop :=
  e = .returned (.tuple #[]) ∧ ∃ d, PX w' g src (rulesF (rest (tl src) 0).length (false, rest (tl src) 0) ⟨[], [], [], []⟩).2 d ∧ DO w' w.heap.size d (rulesF (rest (tl src) 0).length (false, rest (tl src) 0) ⟨[], [], [], []⟩).1 ∧ But g w.heap.size w w' ∧ Toks (rulesF (rest (tl src) 0).length (false, rest (tl src) 0) ⟨[], [], [], []⟩).2 ∧ (rulesF (rest (tl src) 0).length (false, rest (tl src) 0) ⟨[], [], [], []⟩).1.le 4194305
set_option maxHeartbeats 2000000 in
theorem rules_any (g : Nat) (src : ByteArray) (w : World) (h : PB w g ⟨src, 0, 0, 0, ⟨#[]⟩, .slice none 0 0, .slice none 0 0, .slice none 0 0, .slice none 0 0, .slice none 0 0, .slice none 0 0, 0, 0⟩) (hs : src.size ≤ 4194304) :
    Calls Tryz.prog 46 #[.pointer (some ⟨g, 0, none⟩)] w (RulesPost w g src) := by
  have hlt := h.lt
  have HN := next_any g _ w h (Nat.zero_le _) hs
  simp only at HN
  obtain ⟨q, hq⟩ : ∃ q, q = 0 + skipN false ((tl src).drop 0) := ⟨_, rfl⟩
  rw [← hq] at HN
  obtain ⟨R, hR⟩ : ∃ R, R = tokL ((tl src).drop q) := ⟨_, rfl⟩
  rw [← hR] at HN
  have HQ := Lib.hid hq
  have HRR := Lib.hid hR
  have hN := rest_length (tl src) 0
  rw [tl_len] at hN
  obtain ⟨st0, hst0⟩ : ∃ st, st = rest (tl src) 0 := ⟨_, rfl⟩
  have HPO : Hid (∀ e w', (e = .returned (.tuple #[]) ∧ ∃ d, PX w' g src (rulesF st0.length (false, st0) ⟨[], [], [], []⟩).2 d ∧ DO w' w.heap.size d (rulesF st0.length (false, st0) ⟨[], [], [], []⟩).1 ∧ But g w.heap.size w w' ∧ Toks (rulesF st0.length (false, st0) ⟨[], [], [], []⟩).2 ∧ (rulesF st0.length (false, st0) ⟨[], [], [], []⟩).1.le 4194305) → RulesPost w g src e w') := Lib.hid (fun e w' hh => by unfold RulesPost; rw [← hst0]; exact hh)
  rw [← hst0] at hN
  have HST := Lib.hid hst0
  clear hq hR hst0 h
  go_enter Tryz.func46, Tryz.ntmps46
  go_wp2_with fail
  refine HN.mono ?_
  rintro e w1 ⟨p, rfl, hp5, hps, hP1, hb1⟩
  have x2 := hP1.c2
  have x3 := hP1.c3
  have x4 := hP1.c4
  have fg := fun j => hP1.free j
  have hP2 := hP1.three' R.1 q (textOf R.2.2)
  have hPX : PX (((w1.setCell ⟨g, 2, none⟩ (.int .i64 (R.1 : Nat))).setCell ⟨g, 3, none⟩ (.int .i64 (q : Nat))).setCell ⟨g, 4, none⟩ (.string (textOf R.2.2))) g src (false, st0) dv0 := by
    refine ⟨_, hP2, ?_, rfl⟩
    refine ⟨rfl, ?_⟩
    rw [HST.out, rest_eq]
    have hta : tokAt (tl src) 0 = ⟨R.1, q, R.2.2⟩ := by unfold tokAt; rw [HRR.out, HQ.out]
    have hte : R.1 ≤ 5 → tokEnd (tl src) 0 = p := fun h => by rw [hp5 h, HRR.out, HQ.out]; unfold tokEnd; rfl
    rw [hta]
    refine ⟨rfl, rfl, rfl, rfl, rfl, hps, ?_⟩
    show (if R.1 ≤ 5 then _ else _) = (if R.1 ≤ 5 then _ else _)
    by_cases h5 : R.1 ≤ 5
    · rw [if_pos h5, if_pos h5, hte h5]
    · rw [if_neg h5, if_neg h5]
  have hB2 := ((hb1.setCell 2 (.int .i64 (R.1 : Nat))).setCell 3 (.int .i64 (q : Nat))).setCell 4 (.string (textOf R.2.2))
  have HPX := Lib.hid hPX
  have HB2 := Lib.hid hB2
  clear HN hP1 hb1 hp5 hP2 hPX hB2
  go_wp2_with fail
  go_loopg [] st0.length (fun k wr => RuI w g w.heap.size src (false, st0) st0.length 4194305 k wr)
  case atStart => exact ⟨(false, st0), ⟨[], [], [], []⟩, dv0, HPX.out, ⟨OwnG.nil _ _ _ _ _, OwnG.nil _ _ _ _ _, OwnG.nil _ _ _ _ _, OwnG.nil _ _ _ _ _, (fun i hi => by cases hi), (fun i hi => by cases hi), (fun i hi => by cases hi), rfl, rfl⟩, HB2.out, (fun t ht => by rw [HST.out] at ht; exact strm_ok _ _ _ t ht), fun _ => Nat.le_refl _, ⟨Nat.zero_le _, Nat.zero_le _, Nat.zero_le _, Nat.zero_le _⟩, by simp only; omega, rfl⟩
  case round =>
    obtain ⟨st, r, d, hP, hD, hB, hT, hf, hle, hN2, hru⟩ := hrel
    clear x2 x3 x4 fg
    have HPP := Lib.hid hP
    have HD := Lib.hid hD
    have HB := Lib.hid hB
    have HT := Lib.hid hT
    have HF := Lib.hid hf
    have HLE := Lib.hid hle
    have HRU := Lib.hid hru
    obtain ⟨z, hz, ⟨hsrc, hrel2⟩, hdv⟩ := hP
    have c11 := hz.c11
    have c2 := hz.c2
    clear hD hB hT hf hle hru hdv hz hsrc
    obtain ⟨bad, ts⟩ := st
    cases ts with
    | nil => cases bad <;> exact hrel2.elim
    | cons t ts =>
      cases bad with
      | true =>
        obtain ⟨hk, ht, hss, hr, -⟩ := hrel2
        have hwy : ((z.why : Int) == 0) = false := by
          have h1 := refT_why src.size t
          rw [← hr] at h1
          have h2 : z.why ≠ 0 := h1
          simp
          omega
        generalize z.why = wy at *
        clear hk ht hss hr c2
        go_wp2_with fail
        refine bodyPost_end (results_none rfl _ _ _) rfl ?_
        refine HPO.out _ _ ?_
        have e := HRU.out
        rw [rulesF_bad] at e
        rw [e]
        exact ⟨rfl, d, HPP.out, HD.out, HB.out, HT.out, ⟨Nat.le_trans HLE.out.1 (Nat.sub_le _ _), Nat.le_trans HLE.out.2.1 (Nat.sub_le _ _), Nat.le_trans HLE.out.2.2.1 (Nat.sub_le _ _), Nat.le_trans HLE.out.2.2.2 (Nat.sub_le _ _)⟩⟩
      | false =>
        obtain ⟨hk, ht, hss, hwy, -⟩ := hrel2
        rw [hwy] at c11
        rw [hk] at c2
        clear hk ht hss hwy
        by_cases h8 : t.k = 8
        · have hd8 : ((t.k : Int) != 8) = false := by simp [h8]
          have HH8 : Hid (headK (false, t :: ts) = 8) := Lib.hid h8
          generalize t.k = tk at *
          clear h8
          go_wp2_with fail
          refine bodyPost_end (results_none rfl _ _ _) rfl ?_
          refine HPO.out _ _ ?_
          have e := HRU.out
          rw [rulesF_end _ _ _ HH8.out] at e
          rw [e]
          exact ⟨rfl, d, HPP.out, HD.out, HB.out, HT.out, ⟨Nat.le_trans HLE.out.1 (Nat.sub_le _ _), Nat.le_trans HLE.out.2.1 (Nat.sub_le _ _), Nat.le_trans HLE.out.2.2.1 (Nat.sub_le _ _), Nat.le_trans HLE.out.2.2.2 (Nat.sub_le _ _)⟩⟩
        · have hd8 : ((t.k : Int) != 8) = true := by simp; omega
          have hgk : 1 ≤ gk := by have := HF.out rfl; simp only [List.length_cons] at this; omega
          obtain ⟨f, hfk⟩ : ∃ f, gk = f + 1 := ⟨gk - 1, by omega⟩
          have HFK := Lib.hid hfk
          have HNX := Lib.hid (rulesF_next f (false, t :: ts) r rfl h8)
          have hnc := name_cases (false, t :: ts)
          have HTN := take_names g src (false, t :: ts) d wr HPP.out hs
          have htk := (HT.out.take nameM).1
          have htl := take_length nameM (false, t :: ts)
          have hless : meetP nameM (false, t :: ts) = true → _ := take_less (m := nameM) (st := (false, t :: ts))
          have HRM : Hid ((takeP nameM (false, t :: ts)).1.s = sMerge → ruleP (false, t :: ts) r = ({ r with M := r.M ++ [(mergeP (takeP nameM (false, t :: ts)).2).1] }, (mergeP (takeP nameM (false, t :: ts)).2).2)) := Lib.hid ruleP_merge
          have HRS : Hid (∀ o, ((o = 8 ∧ (takeP nameM (false, t :: ts)).1.s = sLetters) ∨ (o = 9 ∧ (takeP nameM (false, t :: ts)).1.s = sNumbers) ∨ (o = 10 ∧ (takeP nameM (false, t :: ts)).1.s = sSpaces)) → ruleP (false, t :: ts) r = (r.add o (spansP (takeP nameM (false, t :: ts)).2).1, (spansP (takeP nameM (false, t :: ts)).2).2)) := Lib.hid (fun o ho => ruleP_span ho)
          have HRN : Hid ((takeP nameM (false, t :: ts)).1 = zeroT → ruleP (false, t :: ts) r = (r, (takeP nameM (false, t :: ts)).2)) := Lib.hid ruleP_no
          obtain ⟨⟨a, st1⟩, ha⟩ : ∃ x, x = takeP nameM (false, t :: ts) := ⟨_, rfl⟩
          rw [← ha] at hnc HTN htk hless htl HRM HRS HRN
          simp only at hnc htk hless HRM HRS HRN
          generalize hst : ((false, t :: ts) : PS) = st at *
          have hfd := fun a b s wx => field_text a b s wx
          have HLS := Lib.hid hless
          have HTL := Lib.hid htl
          have hk8 := h8
          generalize t.k = tk at *
          have HTOK := Lib.hid htk
          have hN3 : st.2.length ≤ gk := HF.out (by rw [← hst])
          have hll : (t :: ts).length = st.2.length := by rw [← hst]
          clear ha hless h8 hk8 hst hfk htk htl
          rcases hnc with ⟨rfl, hbad⟩ | ⟨hnm, hmeet⟩
          · have HBAD := Lib.hid hbad
            have HRN2 := Lib.hid (HRN.out rfl)
            clear hbad
            go_wp2_with fail
            refine HTN.mono ?_
            rintro e w2 ⟨rfl, hP2, hb2⟩
            have hD2 := HD.out.but hb2 (Nat.le_refl _) hlt
            have hB2 := HB.out.trans (hb2.mono HB.out.size)
            rw [show tokV (zeroT, st1).1 = .agg #[.int .i64 0, .int .i64 0, .string ⟨#[]⟩] from rfl]
            clear HTN hb2
            go_wp2_with fail
            go_roundg f
            case measure => have := HFK.out; omega
            case rel =>
              obtain ⟨b1, ts1⟩ := st1
              have hb1 : b1 = true := HBAD.out
              subst hb1
              have hl2 : ts1.length ≤ st.2.length := HTL.out
              refine ⟨(true, ts1), r, d, hP2, hD2, hB2, HTOK.out, (fun h => by cases h), ?_, ?_, ?_⟩
              · have := HLE.out
                exact ⟨Nat.le_trans this.1 (by simp only; omega), Nat.le_trans this.2.1 (by simp only; omega), Nat.le_trans this.2.2.1 (by simp only; omega), Nat.le_trans this.2.2.2 (by simp only; omega)⟩
              · simp only; omega
              · rw [HRU.out, HFK.out, HNX.out, HRN2.out]
          · rcases hnm with hn | hn | hn | hn
            · have f0 : ((textOf a.s).toList == ([109, 101, 114, 103, 101] : List UInt8)) = true := by rw [text_list, hn]; decide
              have hls := HLS.out hmeet

              obtain ⟨x, hx⟩ : ∃ x, x = textOf a.s := ⟨_, rfl⟩
              rw [← hx] at f0
              have HTV : Hid (tokV (a, st1).1 = .agg #[.int .i64 (a.k : Nat), .int .i64 (a.at' : Nat), .string x]) := Lib.hid (by rw [hx]; rfl)
              have HN := Lib.hid hn
              clear hx hn hmeet
              go_wp2_with fail
              refine HTN.mono ?_
              rintro e w2 ⟨rfl, hP2, hb2⟩
              have hD2 := HD.out.but hb2 (Nat.le_refl _) hlt
              have hB2 := HB.out.trans (hb2.mono HB.out.size)
              have hle := HLE.out
              rw [HTV.out]
              have hP2 : PX w2 g src st1 d := hP2
              have HME := merge_any g w.heap.size src st1 d r.M w2 hP2 HTOK.out hs hD2.oM hlt hB2.size (by have := hle.1; omega)
              have HD2 := Lib.hid hD2
              have HB2' := Lib.hid hB2
              have HLE2 := Lib.hid hle
              clear HTN hb2 hP2 hD2 hB2 hle
              go_wp2_with fail
              refine HME.mono ?_
              rintro e w3 ⟨rfl, v, hP3, hO3, hBu, hM3, hT3⟩
              clear HME
              go_wp2_with fail
              go_roundg f
              case measure => have := HFK.out; omega
              case rel =>
                have hml := mergeP_length st1
                have hle := HLE2.out
                refine ⟨(mergeP st1).2, { r with M := r.M ++ [(mergeP st1).1] }, { d with M := v }, hP3, HD2.out.merge hO3 hBu hlt, HB2'.out.trans (hBu.toBut (fun i hi => (HD2.out.oM.block hi).1) HB2'.out.size), hT3, (fun _ => by have := HFK.out; omega), ⟨?_, ?_, ?_, ?_⟩, by omega, ?_⟩
                · show (r.M ++ [(mergeP st1).1]).length ≤ _
                  rw [List.length_append]
                  have := hle.1
                  simp only [List.length_cons, List.length_nil]
                  omega
                · have := hle.2.1; show r.A.length ≤ _; omega
                · have := hle.2.2.1; show r.B.length ≤ _; omega
                · have := hle.2.2.2; show r.C.length ≤ _; omega
                · rw [HRU.out, HFK.out, HNX.out, HRM.out HN.out]
            · have f0 : ((textOf a.s).toList == ([109, 101, 114, 103, 101] : List UInt8)) = false := by rw [text_list, hn]; decide
              have f1 : ((textOf a.s).toList == ([108, 101, 116, 116, 101, 114, 115] : List UInt8)) = true := by rw [text_list, hn]; decide
              have hls := HLS.out hmeet

              obtain ⟨x, hx⟩ : ∃ x, x = textOf a.s := ⟨_, rfl⟩
              rw [← hx] at f0 f1
              have HTV : Hid (tokV (a, st1).1 = .agg #[.int .i64 (a.k : Nat), .int .i64 (a.at' : Nat), .string x]) := Lib.hid (by rw [hx]; rfl)
              have HN := Lib.hid hn
              clear hx hn hmeet
              go_wp2_with fail
              refine HTN.mono ?_
              rintro e w2 ⟨rfl, hP2, hb2⟩
              have hD2 := HD.out.but hb2 (Nat.le_refl _) hlt
              have hB2 := HB.out.trans (hb2.mono HB.out.size)
              have hle := HLE.out
              rw [HTV.out]
              have hP2 : PX w2 g src st1 d := hP2
              have HME := spans_any g w.heap.size 8 (by omega) src st1 d (r.get 8) w2 hP2 HTOK.out hs (hD2.own (o := 8) (by omega)) hlt hB2.size (by have := hle.2.1; show r.A.length + _ ≤ _; omega)
              have HD2 := Lib.hid hD2
              have HB2' := Lib.hid hB2
              have HLE2 := Lib.hid hle
              clear HTN hb2 hP2 hD2 hB2 hle
              go_wp2_with fail
              refine HME.mono ?_
              rintro e w3 ⟨rfl, v, hP3, hO3, hBu, hM3, hT3⟩
              clear HME
              go_wp2_with fail
              go_roundg f
              case measure => have := HFK.out; omega
              case rel =>
                have hml := spansP_length st1
                have hle := HLE2.out
                refine ⟨(spansP st1).2, r.add 8 (spansP st1).1, d.set 8 v, hP3, HD2.out.span (o := 8) (by omega) hO3 hBu hM3 hlt, HB2'.out.trans (hBu.toBut (fun i hi => ((HD2.out.own (o := 8) (by omega)).block hi).1) HB2'.out.size), hT3, (fun _ => by have := HFK.out; omega), ⟨?_, ?_, ?_, ?_⟩, by omega, ?_⟩
                · have := hle.1; show r.M.length ≤ _; omega
                · have := hle.2.1; show (r.A ++ (spansP st1).1).length ≤ _; rw [List.length_append]; omega
                · have := hle.2.2.1; show r.B.length ≤ _; omega
                · have := hle.2.2.2; show r.C.length ≤ _; omega
                · rw [HRU.out, HFK.out, HNX.out, HRS.out 8 (.inl ⟨rfl, HN.out⟩)]
            · have f0 : ((textOf a.s).toList == ([109, 101, 114, 103, 101] : List UInt8)) = false := by rw [text_list, hn]; decide
              have f1 : ((textOf a.s).toList == ([108, 101, 116, 116, 101, 114, 115] : List UInt8)) = false := by rw [text_list, hn]; decide
              have f2 : ((textOf a.s).toList == ([110, 117, 109, 98, 101, 114, 115] : List UInt8)) = true := by rw [text_list, hn]; decide
              have hls := HLS.out hmeet

              obtain ⟨x, hx⟩ : ∃ x, x = textOf a.s := ⟨_, rfl⟩
              rw [← hx] at f0 f1 f2
              have HTV : Hid (tokV (a, st1).1 = .agg #[.int .i64 (a.k : Nat), .int .i64 (a.at' : Nat), .string x]) := Lib.hid (by rw [hx]; rfl)
              have HN := Lib.hid hn
              clear hx hn hmeet
              go_wp2_with fail
              refine HTN.mono ?_
              rintro e w2 ⟨rfl, hP2, hb2⟩
              have hD2 := HD.out.but hb2 (Nat.le_refl _) hlt
              have hB2 := HB.out.trans (hb2.mono HB.out.size)
              have hle := HLE.out
              rw [HTV.out]
              have hP2 : PX w2 g src st1 d := hP2
              have HME := spans_any g w.heap.size 9 (by omega) src st1 d (r.get 9) w2 hP2 HTOK.out hs (hD2.own (o := 9) (by omega)) hlt hB2.size (by have := hle.2.2.1; show r.B.length + _ ≤ _; omega)
              have HD2 := Lib.hid hD2
              have HB2' := Lib.hid hB2
              have HLE2 := Lib.hid hle
              clear HTN hb2 hP2 hD2 hB2 hle
              go_wp2_with fail
              refine HME.mono ?_
              rintro e w3 ⟨rfl, v, hP3, hO3, hBu, hM3, hT3⟩
              clear HME
              go_wp2_with fail
              go_roundg f
              case measure => have := HFK.out; omega
              case rel =>
                have hml := spansP_length st1
                have hle := HLE2.out
                refine ⟨(spansP st1).2, r.add 9 (spansP st1).1, d.set 9 v, hP3, HD2.out.span (o := 9) (by omega) hO3 hBu hM3 hlt, HB2'.out.trans (hBu.toBut (fun i hi => ((HD2.out.own (o := 9) (by omega)).block hi).1) HB2'.out.size), hT3, (fun _ => by have := HFK.out; omega), ⟨?_, ?_, ?_, ?_⟩, by omega, ?_⟩
                · have := hle.1; show r.M.length ≤ _; omega
                · have := hle.2.1; show r.A.length ≤ _; omega
                · have := hle.2.2.1; show (r.B ++ (spansP st1).1).length ≤ _; rw [List.length_append]; omega
                · have := hle.2.2.2; show r.C.length ≤ _; omega
                · rw [HRU.out, HFK.out, HNX.out, HRS.out 9 (.inr (.inl ⟨rfl, HN.out⟩))]
            · have f0 : ((textOf a.s).toList == ([109, 101, 114, 103, 101] : List UInt8)) = false := by rw [text_list, hn]; decide
              have f1 : ((textOf a.s).toList == ([108, 101, 116, 116, 101, 114, 115] : List UInt8)) = false := by rw [text_list, hn]; decide
              have f2 : ((textOf a.s).toList == ([110, 117, 109, 98, 101, 114, 115] : List UInt8)) = false := by rw [text_list, hn]; decide
              have f3 : ((textOf a.s).toList == ([115, 112, 97, 99, 101, 115] : List UInt8)) = true := by rw [text_list, hn]; decide
              have hls := HLS.out hmeet

              obtain ⟨x, hx⟩ : ∃ x, x = textOf a.s := ⟨_, rfl⟩
              rw [← hx] at f0 f1 f2 f3
              have HTV : Hid (tokV (a, st1).1 = .agg #[.int .i64 (a.k : Nat), .int .i64 (a.at' : Nat), .string x]) := Lib.hid (by rw [hx]; rfl)
              have HN := Lib.hid hn
              clear hx hn hmeet
              go_wp2_with fail
              refine HTN.mono ?_
              rintro e w2 ⟨rfl, hP2, hb2⟩
              have hD2 := HD.out.but hb2 (Nat.le_refl _) hlt
              have hB2 := HB.out.trans (hb2.mono HB.out.size)
              have hle := HLE.out
              rw [HTV.out]
              have hP2 : PX w2 g src st1 d := hP2
              have HME := spans_any g w.heap.size 10 (by omega) src st1 d (r.get 10) w2 hP2 HTOK.out hs (hD2.own (o := 10) (by omega)) hlt hB2.size (by have := hle.2.2.2; show r.C.length + _ ≤ _; omega)
              have HD2 := Lib.hid hD2
              have HB2' := Lib.hid hB2
              have HLE2 := Lib.hid hle
              clear HTN hb2 hP2 hD2 hB2 hle
              go_wp2_with fail
              refine HME.mono ?_
              rintro e w3 ⟨rfl, v, hP3, hO3, hBu, hM3, hT3⟩
              clear HME
              go_wp2_with fail
              go_roundg f
              case measure => have := HFK.out; omega
              case rel =>
                have hml := spansP_length st1
                have hle := HLE2.out
                refine ⟨(spansP st1).2, r.add 10 (spansP st1).1, d.set 10 v, hP3, HD2.out.span (o := 10) (by omega) hO3 hBu hM3 hlt, HB2'.out.trans (hBu.toBut (fun i hi => ((HD2.out.own (o := 10) (by omega)).block hi).1) HB2'.out.size), hT3, (fun _ => by have := HFK.out; omega), ⟨?_, ?_, ?_, ?_⟩, by omega, ?_⟩
                · have := hle.1; show r.M.length ≤ _; omega
                · have := hle.2.1; show r.A.length ≤ _; omega
                · have := hle.2.2.1; show r.B.length ≤ _; omega
                · have := hle.2.2.2; show (r.C ++ (spansP st1).1).length ≤ _; rw [List.length_append]; omega
                · rw [HRU.out, HFK.out, HNX.out, HRS.out 10 (.inr (.inr ⟨rfl, HN.out⟩))]
end Go.Proofs.YtonbfcpbgkpbaaaGreatDoor
end
section
/- recipe.Parse: its contract. -/
namespace Go.Proofs.YtonbfcpbgkpbaaaGreatDoor
open Go.RowKit Go.Sort Go.Joins
set_option linter.unusedVariables false
set_option linter.unusedSimpArgs false
set_option maxRecDepth 100000
/-- Parse's data lie in memory of their own. -/
structure DataOwn (w : World) (base : Nat) (W M A B C : Value) (d : PD) : Prop where
  oW : OwnG 9 1 encS1 w base W d.W
  oM : OwnG 39 3 encG w base M d.M
  oA : OwnG 41 2 encS w base A d.A
  oB : OwnG 41 2 encS w base B d.B
  oC : OwnG 41 2 encS w base C d.C
  dAB : Apart A B
  dAC : Apart A C
  dBC : Apart B C
def nil5 : Value := .agg #[.slice none 0 0, .slice none 0 0, .slice none 0 0, .slice none 0 0, .slice none 0 0]
def ParsePost (w : World) (pl : Nat → Nat × Nat) (R : Except (Nat × Nat) PD) (e : Ending) (w' : World) : Prop :=
  Below w.heap.size w w' ∧ match R with
  | .error y => e = .returned (.tuple #[nil5, .agg #[.int .i64 (y.1 : Nat), .int .i64 ((pl y.1).1 : Nat), .int .i64 ((pl y.1).2 : Nat)], .int .i64 (y.2 : Nat)])
  | .ok d => ∃ W M A B C, e = .returned (.tuple #[.agg #[W, M, A, B, C], .agg #[.int .i64 0, .int .i64 0, .int .i64 0], .int .i64 0]) ∧ DataOwn w' w.heap.size W M A B C d
/-- What placeOf answers. -/
def PlaceCon (src : ByteArray) (pl : Nat → Nat × Nat) (y : Nat) : Prop := ∀ wx : World, Calls Tryz.prog 45 #[.string src, .int .i64 (y : Nat)] wx fun e w' => e = .returned (.agg #[.int .i64 (y : Nat), .int .i64 ((pl y).1 : Nat), .int .i64 ((pl y).2 : Nat)]) ∧ Below wx.heap.size wx w'
theorem parseA_long {l : List UInt8} (h : 4194304 < l.length) : parseA l = .error (0, 3) := by unfold parseA; rw [if_pos h]
def DB (w : World) (z : Nat) (v0 v1 v2 v3 v4 : Value) : Prop := w.heap[z]? = some (.cells #[v0, v1, v2, v3, v4] 26 (0, 0))
def QB (w : World) (z : Nat) (r0 r1 r2 : Value) : Prop := w.heap[z]? = some (.cells #[r0, r1, r2] 69 (0, 0))
theorem fin8 {V : World} {z y B : Nat} {v0 v1 v2 v3 v4 r0 r1 r2 u0 u1 u2 u3 u4 s0 s1 s2 : Value} (hD : DB V z v0 v1 v2 v3 v4) (hR : QB V y r0 r1 r2) (hne : z ≠ y) (hz : B ≤ z) (hy : B ≤ y) {W : World} (hW : W = (((((((V.setCell ⟨z, 0, none⟩ u0).setCell ⟨z, 1, none⟩ u1).setCell ⟨z, 2, none⟩ u2).setCell ⟨z, 3, none⟩ u3).setCell ⟨z, 4, none⟩ u4).setCell ⟨y, 0, none⟩ s0).setCell ⟨y, 1, none⟩ s1).setCell ⟨y, 2, none⟩ s2) :
    W.cell? ⟨z, 0, none⟩ = some u0 ∧ W.cell? ⟨z, 1, none⟩ = some u1 ∧ W.cell? ⟨z, 2, none⟩ = some u2 ∧ W.cell? ⟨z, 3, none⟩ = some u3 ∧ W.cell? ⟨z, 4, none⟩ = some u4 ∧ W.cell? ⟨y, 0, none⟩ = some s0 ∧ W.cell? ⟨y, 1, none⟩ = some s1 ∧ W.cell? ⟨y, 2, none⟩ = some s2 ∧ Below B V W ∧ (∀ j, j ≠ z → j ≠ y → W.heap[j]? = V.heap[j]?) := by
  subst hW
  have d1 : DB (V.setCell ⟨z, 0, none⟩ u0) z u0 v1 v2 v3 v4 := block_setCell hD (i := 0) u0
  have d2 : DB ((V.setCell ⟨z, 0, none⟩ u0).setCell ⟨z, 1, none⟩ u1) z u0 u1 v2 v3 v4 := block_setCell d1 (i := 1) u1
  have d3 : DB (((V.setCell ⟨z, 0, none⟩ u0).setCell ⟨z, 1, none⟩ u1).setCell ⟨z, 2, none⟩ u2) z u0 u1 u2 v3 v4 := block_setCell d2 (i := 2) u2
  have d4 : DB ((((V.setCell ⟨z, 0, none⟩ u0).setCell ⟨z, 1, none⟩ u1).setCell ⟨z, 2, none⟩ u2).setCell ⟨z, 3, none⟩ u3) z u0 u1 u2 u3 v4 := block_setCell d3 (i := 3) u3
  have d5 : DB (((((V.setCell ⟨z, 0, none⟩ u0).setCell ⟨z, 1, none⟩ u1).setCell ⟨z, 2, none⟩ u2).setCell ⟨z, 3, none⟩ u3).setCell ⟨z, 4, none⟩ u4) z u0 u1 u2 u3 u4 := block_setCell d4 (i := 4) u4
  have hk5 : ∀ j, j ≠ z → (((((V.setCell ⟨z, 0, none⟩ u0).setCell ⟨z, 1, none⟩ u1).setCell ⟨z, 2, none⟩ u2).setCell ⟨z, 3, none⟩ u3).setCell ⟨z, 4, none⟩ u4).heap[j]? = V.heap[j]? := fun j hj => (Below.heap_setCell _ _ _ _ hj).trans ((Below.heap_setCell _ _ _ _ hj).trans ((Below.heap_setCell _ _ _ _ hj).trans ((Below.heap_setCell _ _ _ _ hj).trans (Below.heap_setCell _ _ _ _ hj))))
  have q0 : QB (((((V.setCell ⟨z, 0, none⟩ u0).setCell ⟨z, 1, none⟩ u1).setCell ⟨z, 2, none⟩ u2).setCell ⟨z, 3, none⟩ u3).setCell ⟨z, 4, none⟩ u4) y r0 r1 r2 := (hk5 y hne.symm).trans hR
  have bb : Below B V (((((V.setCell ⟨z, 0, none⟩ u0).setCell ⟨z, 1, none⟩ u1).setCell ⟨z, 2, none⟩ u2).setCell ⟨z, 3, none⟩ u3).setCell ⟨z, 4, none⟩ u4) := (((((Below.refl B V).setCell (p := ⟨z, 0, none⟩) hz u0).setCell (p := ⟨z, 1, none⟩) hz u1).setCell (p := ⟨z, 2, none⟩) hz u2).setCell (p := ⟨z, 3, none⟩) hz u3).setCell (p := ⟨z, 4, none⟩) hz u4
  generalize ((((V.setCell ⟨z, 0, none⟩ u0).setCell ⟨z, 1, none⟩ u1).setCell ⟨z, 2, none⟩ u2).setCell ⟨z, 3, none⟩ u3).setCell ⟨z, 4, none⟩ u4 = V5 at *
  have q1 : QB (V5.setCell ⟨y, 0, none⟩ s0) y s0 r1 r2 := block_setCell q0 (i := 0) s0
  have q2 : QB ((V5.setCell ⟨y, 0, none⟩ s0).setCell ⟨y, 1, none⟩ s1) y s0 s1 r2 := block_setCell q1 (i := 1) s1
  have q3 : QB (((V5.setCell ⟨y, 0, none⟩ s0).setCell ⟨y, 1, none⟩ s1).setCell ⟨y, 2, none⟩ s2) y s0 s1 s2 := block_setCell q2 (i := 2) s2
  have hk8 : ∀ j, j ≠ y → (((V5.setCell ⟨y, 0, none⟩ s0).setCell ⟨y, 1, none⟩ s1).setCell ⟨y, 2, none⟩ s2).heap[j]? = V5.heap[j]? := fun j hj => (Below.heap_setCell _ _ _ _ hj).trans ((Below.heap_setCell _ _ _ _ hj).trans (Below.heap_setCell _ _ _ _ hj))
  have d8 : DB (((V5.setCell ⟨y, 0, none⟩ s0).setCell ⟨y, 1, none⟩ s1).setCell ⟨y, 2, none⟩ s2) z u0 u1 u2 u3 u4 := (hk8 z hne).trans d5
  exact ⟨(cell_of_block d8 0).trans rfl, (cell_of_block d8 1).trans rfl, (cell_of_block d8 2).trans rfl, (cell_of_block d8 3).trans rfl, (cell_of_block d8 4).trans rfl, (cell_of_block q3 0).trans rfl, (cell_of_block q3 1).trans rfl, (cell_of_block q3 2).trans rfl, ((bb.setCell (p := ⟨y, 0, none⟩) hy s0).setCell (p := ⟨y, 1, none⟩) hy s1).setCell (p := ⟨y, 2, none⟩) hy s2, fun j hj hj2 => (hk8 j hj2).trans (hk5 j hj)⟩
theorem meanF_err : ∀ (l : List Wr) (d : MD) (y : Nat × Nat), meanF l d = .error y → y.2 ≠ 0
  | [], d, y, h => by cases h
  | x :: l, d, y, h => by
    unfold meanF at h
    cases hm : meanP x d with
    | error e =>
      rw [hm] at h
      cases h
      unfold meanP at hm
      revert hm
      cases idOfP d.made x.l.s with
      | none => intro hm; cases hm; simp
      | some a =>
        simp only
        cases idOfP d.made x.r.s with
        | none => intro hm; cases hm; simp
        | some b =>
          simp only
          split
          · intro hm; cases hm; simp
          · intro hm; cases hm
    | ok d' =>
      rw [hm] at h
      exact meanF_err l d' y h
theorem But.toBelow {g B C : Nat} {w w' : World} (h : But g B w w') (hC : C ≤ B) (hg : C ≤ g) : Below C w w' :=
  ⟨h.1, h.2.1, h.2.2.1, h.2.2.2.1, fun k hk => h.2.2.2.2 k (by omega) (by omega)⟩
theorem cell_farG {b g : Nat} (h : g ≠ b) (w : World) (o : Nat) (v : Value) (o' : Nat) : (w.setCell ⟨b, o, none⟩ v).cell? ⟨g, o', none⟩ = w.cell? ⟨g, o', none⟩ := by
  have h1 := Below.heap_setCell w ⟨b, o, none⟩ v g h
  unfold World.cell?
  simp only [h1]
set_option maxHeartbeats 2000000 in
theorem parse_any (src : ByteArray) (pl : Nat → Nat × Nat) (w : World) (hs : src.size ≤ 9223372036854775807) (hpl : ∀ y, parseA (tl src) = .error y → PlaceCon src pl y.1) :
    Calls Tryz.prog 31 #[.string src] w (ParsePost w pl (parseA (tl src))) := by
  obtain ⟨R, hR⟩ : ∃ R, R = parseA (tl src) := ⟨_, rfl⟩
  rw [← hR]
  have HR := Lib.hid hR
  have HPL := Lib.hid hpl
  have b1 := (box_below w (.cells #[.slice none 0 0, .slice none 0 0, .slice none 0 0, .slice none 0 0, .slice none 0 0] 26))
  have b2 := b1.trans ((box_below (w.alloc (.cells #[.slice none 0 0, .slice none 0 0, .slice none 0 0, .slice none 0 0, .slice none 0 0] 26)) (.cells #[.int .i64 0, .int .i64 0, .int .i64 0] 69)).mono b1.size)
  have hD := heap_alloc_new w (.cells #[.slice none 0 0, .slice none 0 0, .slice none 0 0, .slice none 0 0, .slice none 0 0] 26)
  obtain ⟨w1, hw1⟩ : ∃ w1, w1 = w.alloc (.cells #[.slice none 0 0, .slice none 0 0, .slice none 0 0, .slice none 0 0, .slice none 0 0] 26) := ⟨_, rfl⟩
  have hs1 : w1.heap.size = w.heap.size + 1 := by rw [hw1]; simp
  rw [← hw1] at b1 b2 hD
  have hQ := heap_alloc_new w1 (.cells #[.int .i64 0, .int .i64 0, .int .i64 0] 69)
  have hD2 := ((box_below w1 (.cells #[.int .i64 0, .int .i64 0, .int .i64 0] 69)).block w.heap.size (by omega)).trans hD
  obtain ⟨w2, hw2⟩ : ∃ w2, w2 = w1.alloc (.cells #[.int .i64 0, .int .i64 0, .int .i64 0] 69) := ⟨_, rfl⟩
  have hs2 : w2.heap.size = w.heap.size + 2 := by rw [hw2]; simp; omega
  rw [← hw2] at b2 hQ hD2
  rw [hs1] at hQ
  have HW1 := Lib.hid hw1
  have HW2 := Lib.hid hw2
  have HB2 := Lib.hid b2
  have HS2 := Lib.hid hs2
  clear hR hpl b1 b2 hD hw1 hw2 hs1 hs2
  by_cases hlong : 4194304 < src.size
  · have g0 : decide ((4194304 : Int) < (src.size : Int)) = true := decide_eq_true (by omega)
    have hre : R = .error (0, 3) := by rw [HR.out]; exact parseA_long (by simpa using hlong)
    have HRE := Lib.hid hre
    have hP := HPL.out (0, 3) (HR.out.symm.trans hre) w2
    simp only at hP
    clear hre
    go_enter Tryz.func31, Tryz.ntmps31
    go_wp2_with fail
    rw [← HW1.out, ← HW2.out]
    refine hP.mono ?_
    rintro e w3 ⟨rfl, hb3⟩
    have hD3 := (hb3.block w.heap.size (by have := HS2.out; omega)).trans hD2
    have hQ3 := (hb3.block (w.heap.size + 1) (by have := HS2.out; omega)).trans hQ
    have d0 := fun j => cell_of_block hD3 j
    have f0 := fun j => unfrozen_of_block hD3 j
    have q0 : w3.cell? ⟨w.heap.size + 1, 0, none⟩ = some (.int .i64 0) := (cell_of_block hQ3 0).trans rfl
    have q1 : w3.cell? ⟨w.heap.size + 1, 1, none⟩ = some (.int .i64 0) := (cell_of_block hQ3 1).trans rfl
    have q2 : w3.cell? ⟨w.heap.size + 1, 2, none⟩ = some (.int .i64 0) := (cell_of_block hQ3 2).trans rfl
    have f1 := fun j => unfrozen_of_block hQ3 j
    go_wp2_with fail
    obtain ⟨WF, hWF⟩ : ∃ WF, WF = ((((((((w3.setCell ⟨w.heap.size, 0, none⟩ (.slice none 0 0)).setCell ⟨w.heap.size, 1, none⟩ (.slice none 0 0)).setCell ⟨w.heap.size, 2, none⟩ (.slice none 0 0)).setCell ⟨w.heap.size, 3, none⟩ (.slice none 0 0)).setCell ⟨w.heap.size, 4, none⟩ (.slice none 0 0)).setCell ⟨w.heap.size + 1, 0, none⟩ (.int .i64 0)).setCell ⟨w.heap.size + 1, 1, none⟩ (.int .i64 ((pl 0).1 : Nat))).setCell ⟨w.heap.size + 1, 2, none⟩ (.int .i64 ((pl 0).2 : Nat))) := ⟨_, rfl⟩
    rw [← hWF]
    clear d0 f0 q0 q1 q2 f1
    obtain ⟨y0, y1, y2, y3, y4, y5, y6, y7, hfb, -⟩ := fin8 (B := w.heap.size) hD3 hQ3 (by omega) (Nat.le_refl _) (Nat.le_succ _) hWF
    clear hWF
    exact bodyPost_ret (v := .tuple #[nil5, .agg #[.int .i64 0, .int .i64 ((pl 0).1 : Nat), .int .i64 ((pl 0).2 : Nat)], .int .i64 3]) (by simp [results, Tryz.results31, go_sem, y0, y1, y2, y3, y4, y5, y6, y7, nil5]) rfl ⟨(HB2.out.trans (hb3.mono HB2.out.size)).trans hfb, by rw [HRE.out]; rfl⟩
  · have g0 : decide ((4194304 : Int) < (src.size : Int)) = false := decide_eq_false (by omega)
    obtain ⟨g, hg⟩ : ∃ g, g = w.heap.size + 2 := ⟨_, rfl⟩
    have hP3 : PB (w2.alloc (.cells #[.string src, .int .i64 0, .int .i64 0, .int .i64 0, .string ⟨#[]⟩, .slice none 0 0, .slice none 0 0, .slice none 0 0, .slice none 0 0, .slice none 0 0, .slice none 0 0, .int .i64 0, .int .i64 0] 95)) g ⟨src, 0, 0, 0, ⟨#[]⟩, .slice none 0 0, .slice none 0 0, .slice none 0 0, .slice none 0 0, .slice none 0 0, .slice none 0 0, 0, 0⟩ := by
      rw [hg, ← HS2.out]; exact heap_alloc_new w2 _
    have hb3 := box_below w2 (.cells #[.string src, .int .i64 0, .int .i64 0, .int .i64 0, .string ⟨#[]⟩, .slice none 0 0, .slice none 0 0, .slice none 0 0, .slice none 0 0, .slice none 0 0, .slice none 0 0, .int .i64 0, .int .i64 0] 95)
    obtain ⟨w3, hw3⟩ : ∃ w3, w3 = w2.alloc (.cells #[.string src, .int .i64 0, .int .i64 0, .int .i64 0, .string ⟨#[]⟩, .slice none 0 0, .slice none 0 0, .slice none 0 0, .slice none 0 0, .slice none 0 0, .slice none 0 0, .int .i64 0, .int .i64 0] 95) := ⟨_, rfl⟩
    have hs3 : w3.heap.size = w.heap.size + 3 := by rw [hw3]; have := HS2.out; simp; omega
    rw [← hw3] at hP3 hb3
    have HW3 := Lib.hid hw3
    have HGS := Lib.hid hg
    have HS3 := Lib.hid hs3
    have HRU := rules_any g src w3 hP3 (by omega)
    have hD3 := (hb3.block w.heap.size (by have := HS2.out; omega)).trans hD2
    have hQ3 := (hb3.block (w.heap.size + 1) (by have := HS2.out; omega)).trans hQ
    have HB3 := Lib.hid (HB2.out.trans (hb3.mono HB2.out.size))
    have HD2 := Lib.hid hD3
    have HQ2 := Lib.hid hQ3
    have hfit := rules_fit (tl src) (by simp; omega)
    have hpa : parseA (tl src) = (if (rulesF (rest (tl src) 0).length (false, rest (tl src) 0) ⟨[], [], [], []⟩).2.1 = true then .error (match (rulesF (rest (tl src) 0).length (false, rest (tl src) 0) ⟨[], [], [], []⟩).2.2 with | [] => (src.size, 31) | t :: _ => refT src.size t) else
      match meanF (rulesF (rest (tl src) 0).length (false, rest (tl src) 0) ⟨[], [], [], []⟩).1.M ⟨List.replicate (rulesF (rest (tl src) 0).length (false, rest (tl src) 0) ⟨[], [], [], []⟩).1.M.length [], [], []⟩ with
      | .error e => .error e
      | .ok d => .ok ⟨d.W, d.M, (rulesF (rest (tl src) 0).length (false, rest (tl src) 0) ⟨[], [], [], []⟩).1.A, (rulesF (rest (tl src) 0).length (false, rest (tl src) 0) ⟨[], [], [], []⟩).1.B, (rulesF (rest (tl src) 0).length (false, rest (tl src) 0) ⟨[], [], [], []⟩).1.C⟩) := by
      unfold parseA
      rw [if_neg (by simp; omega)]
      have hre : strm ((tl src).length + 1) (tl src) 0 = rest (tl src) 0 := rfl
      rw [hre, tl_len]
      rfl
    unfold RulesPost at HRU
    obtain ⟨RF, hRF⟩ : ∃ RF, RF = rulesF (rest (tl src) 0).length (false, rest (tl src) 0) ⟨[], [], [], []⟩ := ⟨_, rfl⟩
    rw [← hRF] at hfit hpa HRU
    rw [← HR.out] at hpa
    have HFIT := Lib.hid hfit
    have HPA := Lib.hid hpa
    clear hRF hfit hpa hP3 hb3 hD2 hQ hD3 hQ3 hw3 hs3 hg
    go_enter Tryz.func31, Tryz.ntmps31
    go_wp2_with fail
    rw [show w.heap.size + 1 + 1 = g by have := HGS.out; omega, ← HW1.out, ← HW2.out, ← HW3.out]
    refine HRU.mono ?_
    rintro e w4 ⟨rfl, d, ⟨zz, hPz, ⟨hsrc, hrel⟩, hdv⟩, hDO, hBw, -, hle⟩
    obtain ⟨r, bad, ts⟩ := RF
    clear HRU
    have hpa := HPA.out
    simp only at hpa hDO hle hrel
    cases ts with
    | nil => cases bad <;> exact hrel.elim
    | cons t ts =>
      cases bad with
      | true =>
        rw [if_pos rfl] at hpa
        obtain ⟨-, -, -, hrf, -⟩ := hrel
        have hRe : R = .error (zz.at', zz.why) := by rw [hrf]; exact hpa
        have hwy : zz.why ≠ 0 := by have := refT_why src.size t; rw [← hrf] at this; exact this
        clear hpa hrf hsrc hdv hDO hle
        obtain ⟨py, hpy⟩ : ∃ py, py = zz.at' := ⟨_, rfl⟩
        obtain ⟨wy, hwy2⟩ : ∃ wy, wy = zz.why := ⟨_, rfl⟩
        have e11 := hPz.c11
        have e12 := hPz.c12
        have fz := fun j => hPz.free j
        rw [← hpy, ← hwy2] at hRe
        rw [← hwy2] at e11 hwy
        rw [← hpy] at e12
        have g1 : ((wy : Int) == 0) = false := by simp; omega
        have g2 : ((wy : Int) != 0) = true := by simp; omega
        have HRE := Lib.hid hRe
        have HP := Lib.hid (HPL.out (py, wy) (HR.out.symm.trans hRe))
        have hs3 := HS3.out
        have hgs := HGS.out
        have hD5 := (hBw.2.2.2.2 w.heap.size (by omega) (by omega)).trans HD2.out
        have hQ5 := (hBw.2.2.2.2 (w.heap.size + 1) (by omega) (by omega)).trans HQ2.out
        have hB5 : Below w.heap.size w w4 := HB3.out.trans (hBw.toBelow (by omega) (by omega))
        clear hs3 hgs
        have HD5 := Lib.hid hD5
        have HQ5 := Lib.hid hQ5
        have HB5 := Lib.hid hB5
        have HPz := Lib.hid hPz
        have HWY := Lib.hid hwy2
        have HPY := Lib.hid hpy
        have HNG : Hid (g ≠ w.heap.size ∧ g ≠ w.heap.size + 1) := Lib.hid (by have := HGS.out; omega)
        clear hPz hRe hwy hBw hpy hwy2 hD5 hQ5 hB5
        go_upto_region 8 with fail
        have n2 : g ≠ w.heap.size := HNG.out.1
        have n3 : g ≠ w.heap.size + 1 := HNG.out.2
        go_region_held3 (fun w' : World => w'.cell? ⟨g, 11, none⟩ = some (.int .i64 (wy : Nat)) ∧ w'.cell? ⟨g, 12, none⟩ = some (.int .i64 (py : Nat))) (first | go_keep | (refine ⟨?_, ?_⟩ <;> (simp only [cell_farG n2, cell_farG n3]; assumption))) ((go_at_call 45; refine (HP.out _).mono ?_; rintro e w6 ⟨rfl, hb6⟩; have hdr := below_drewN (Below.refl w4.heap.size w4) 1; have hP6 := (HPz.out.below hdr HPz.out.lt).below hb6 HPz.out.lt; have hD6 := (hb6.block w.heap.size (Array.getElem?_eq_some_iff.1 HD5.out).1).trans HD5.out; have hQ6 := (hb6.block (w.heap.size + 1) (Array.getElem?_eq_some_iff.1 HQ5.out).1).trans HQ5.out; have u0 : w6.cell? ⟨g, 11, none⟩ = some (.int .i64 (wy : Nat)) := hP6.c11.trans (by rw [HWY.out]); have u1 : w6.cell? ⟨g, 12, none⟩ = some (.int .i64 (py : Nat)) := hP6.c12.trans (by rw [HPY.out]); have f0 := fun j => unfrozen_of_block hD6 j; have f1 := fun j => unfrozen_of_block hQ6 j; have d0 : w6.cell? ⟨w.heap.size, 0, none⟩ = some (.slice none 0 0) := (cell_of_block hD6 0).trans rfl; have d1 : w6.cell? ⟨w.heap.size, 1, none⟩ = some (.slice none 0 0) := (cell_of_block hD6 1).trans rfl; have d2 : w6.cell? ⟨w.heap.size, 2, none⟩ = some (.slice none 0 0) := (cell_of_block hD6 2).trans rfl; have d3 : w6.cell? ⟨w.heap.size, 3, none⟩ = some (.slice none 0 0) := (cell_of_block hD6 3).trans rfl; have d4 : w6.cell? ⟨w.heap.size, 4, none⟩ = some (.slice none 0 0) := (cell_of_block hD6 4).trans rfl; have q0 : w6.cell? ⟨w.heap.size + 1, 0, none⟩ = some (.int .i64 0) := (cell_of_block hQ6 0).trans rfl; have q1 : w6.cell? ⟨w.heap.size + 1, 1, none⟩ = some (.int .i64 0) := (cell_of_block hQ6 1).trans rfl; have q2 : w6.cell? ⟨w.heap.size + 1, 2, none⟩ = some (.int .i64 0) := (cell_of_block hQ6 2).trans rfl))
        obtain ⟨WF, hWF⟩ : ∃ WF, WF = ((((((((w6.setCell ⟨w.heap.size, 0, none⟩ (.slice none 0 0)).setCell ⟨w.heap.size, 1, none⟩ (.slice none 0 0)).setCell ⟨w.heap.size, 2, none⟩ (.slice none 0 0)).setCell ⟨w.heap.size, 3, none⟩ (.slice none 0 0)).setCell ⟨w.heap.size, 4, none⟩ (.slice none 0 0)).setCell ⟨w.heap.size + 1, 0, none⟩ (.int .i64 (py : Nat))).setCell ⟨w.heap.size + 1, 1, none⟩ (.int .i64 ((pl py).1 : Nat))).setCell ⟨w.heap.size + 1, 2, none⟩ (.int .i64 ((pl py).2 : Nat))) := ⟨_, rfl⟩
        rw [← hWF]
        clear d0 d1 d2 d3 d4 f0 f1 q0 q1 q2 u0 u1 hP6
        obtain ⟨y0, y1, y2, y3, y4, y5, y6, y7, hfb, -⟩ := fin8 (B := w.heap.size) hD6 hQ6 (by omega) (Nat.le_refl _) (Nat.le_succ _) hWF
        have HFB := Lib.hid (HB5.out.trans (((hdr.mono HB5.out.size).trans (hb6.mono (Nat.le_trans HB5.out.size hdr.size))).trans hfb))
        clear hWF hD6 hQ6 hfb hdr hb6 e11 e12 fz
        go_wp2_with fail
        exact bodyPost_ret (v := .tuple #[nil5, .agg #[.int .i64 (py : Nat), .int .i64 ((pl py).1 : Nat), .int .i64 ((pl py).2 : Nat)], .int .i64 (wy : Nat)]) (by simp [results, Tryz.results31, go_sem, y0, y1, y2, y3, y4, y5, y6, y7, nil5]) rfl ⟨HFB.out, by rw [HRE.out]⟩
      | false =>
        rw [if_neg (by simp)] at hpa
        obtain ⟨-, -, -, hwz, haz, -⟩ := hrel
        have hM0 : zz.M0 = .slice none 0 0 := by have := hDO.m0; rw [← hdv] at this; exact this
        have hzM : zz.M = d.M := by rw [← hdv]; rfl
        have hzA : zz.A = d.A := by rw [← hdv]; rfl
        have hzB : zz.B = d.B := by rw [← hdv]; rfl
        have hzC : zz.C = d.C := by rw [← hdv]; rfl
        have hoM := hDO.oM
        rw [← hzM] at hoM
        have HME := meaning_any g w3.heap.size zz r.M w4 hPz hM0 hoM (by have := HGS.out; have := HS3.out; omega) hBw.size HFIT.out hle.1
        obtain ⟨RM, hRM⟩ : ∃ RM, RM = meanF r.M ⟨List.replicate r.M.length [], [], []⟩ := ⟨_, rfl⟩
        rw [← hRM] at HME hpa
        have HRM := Lib.hid hRM
        have HDO := Lib.hid hDO
        have HBw := Lib.hid hBw
        have HZA := Lib.hid hzA
        have HZB := Lib.hid hzB
        have HZC := Lib.hid hzC
        have HWZ := Lib.hid hwz
        have e11 := hPz.c11
        rw [hwz] at e11
        have HPB := Lib.hid hpa
        clear hpa hRM hDO hBw hzM hzA hzB hzC hM0 hoM hdv hsrc hwz haz hle hPz
        go_wp2_with fail
        refine HME.mono ?_
        rintro e w5 ⟨rfl, hb5, hR5⟩
        have hBw : But g w3.heap.size w3 w5 := HBw.out.trans (hb5.mono HBw.out.size)
        clear HME e11
        have hpa := HPB.out
        cases RM with
        | error y =>
          obtain ⟨mm, hPz⟩ := hR5
          have hwy : y.2 ≠ 0 := meanF_err _ _ _ HRM.out.symm
          have hRe : R = .error y := hpa
          obtain ⟨zy, hzy⟩ : ∃ zy, zy = ({ zz with M0 := mm, at' := y.1, why := y.2 } : PZ) := ⟨_, rfl⟩
          have hwy : zy.why ≠ 0 := by rw [hzy]; exact hwy
          have hRe : R = .error (zy.at', zy.why) := by rw [hzy]; exact hRe
          rw [← hzy] at hPz
          obtain ⟨zz, hzz⟩ : ∃ zz, zz = zy := ⟨_, rfl⟩
          rw [← hzz] at hPz hwy hRe
          clear hpa hb5 hzz hzy
          obtain ⟨py, hpy⟩ : ∃ py, py = zz.at' := ⟨_, rfl⟩
          obtain ⟨wy, hwy2⟩ : ∃ wy, wy = zz.why := ⟨_, rfl⟩
          have e11 := hPz.c11
          have e12 := hPz.c12
          have fz := fun j => hPz.free j
          rw [← hpy, ← hwy2] at hRe
          rw [← hwy2] at e11 hwy
          rw [← hpy] at e12
          have g1 : ((wy : Int) == 0) = false := by simp; omega
          have g2 : ((wy : Int) != 0) = true := by simp; omega
          have HRE := Lib.hid hRe
          have HP := Lib.hid (HPL.out (py, wy) (HR.out.symm.trans hRe))
          have hs3 := HS3.out
          have hgs := HGS.out
          have hD5 := (hBw.2.2.2.2 w.heap.size (by omega) (by omega)).trans HD2.out
          have hQ5 := (hBw.2.2.2.2 (w.heap.size + 1) (by omega) (by omega)).trans HQ2.out
          have hB5 : Below w.heap.size w w5 := HB3.out.trans (hBw.toBelow (by omega) (by omega))
          clear hs3 hgs
          have HD5 := Lib.hid hD5
          have HQ5 := Lib.hid hQ5
          have HB5 := Lib.hid hB5
          have HPz := Lib.hid hPz
          have HWY := Lib.hid hwy2
          have HPY := Lib.hid hpy
          have HNG : Hid (g ≠ w.heap.size ∧ g ≠ w.heap.size + 1) := Lib.hid (by have := HGS.out; omega)
          clear hPz hRe hwy hBw hpy hwy2 hD5 hQ5 hB5
          go_upto_region 8 with fail
          have n2 : g ≠ w.heap.size := HNG.out.1
          have n3 : g ≠ w.heap.size + 1 := HNG.out.2
          go_region_held3 (fun w' : World => w'.cell? ⟨g, 11, none⟩ = some (.int .i64 (wy : Nat)) ∧ w'.cell? ⟨g, 12, none⟩ = some (.int .i64 (py : Nat))) (first | go_keep | (refine ⟨?_, ?_⟩ <;> (simp only [cell_farG n2, cell_farG n3]; assumption))) ((go_at_call 45; refine (HP.out _).mono ?_; rintro e w6 ⟨rfl, hb6⟩; have hdr := below_drewN (Below.refl w5.heap.size w5) 1; have hP6 := (HPz.out.below hdr HPz.out.lt).below hb6 HPz.out.lt; have hD6 := (hb6.block w.heap.size (Array.getElem?_eq_some_iff.1 HD5.out).1).trans HD5.out; have hQ6 := (hb6.block (w.heap.size + 1) (Array.getElem?_eq_some_iff.1 HQ5.out).1).trans HQ5.out; have u0 : w6.cell? ⟨g, 11, none⟩ = some (.int .i64 (wy : Nat)) := hP6.c11.trans (by rw [HWY.out]); have u1 : w6.cell? ⟨g, 12, none⟩ = some (.int .i64 (py : Nat)) := hP6.c12.trans (by rw [HPY.out]); have f0 := fun j => unfrozen_of_block hD6 j; have f1 := fun j => unfrozen_of_block hQ6 j; have d0 : w6.cell? ⟨w.heap.size, 0, none⟩ = some (.slice none 0 0) := (cell_of_block hD6 0).trans rfl; have d1 : w6.cell? ⟨w.heap.size, 1, none⟩ = some (.slice none 0 0) := (cell_of_block hD6 1).trans rfl; have d2 : w6.cell? ⟨w.heap.size, 2, none⟩ = some (.slice none 0 0) := (cell_of_block hD6 2).trans rfl; have d3 : w6.cell? ⟨w.heap.size, 3, none⟩ = some (.slice none 0 0) := (cell_of_block hD6 3).trans rfl; have d4 : w6.cell? ⟨w.heap.size, 4, none⟩ = some (.slice none 0 0) := (cell_of_block hD6 4).trans rfl; have q0 : w6.cell? ⟨w.heap.size + 1, 0, none⟩ = some (.int .i64 0) := (cell_of_block hQ6 0).trans rfl; have q1 : w6.cell? ⟨w.heap.size + 1, 1, none⟩ = some (.int .i64 0) := (cell_of_block hQ6 1).trans rfl; have q2 : w6.cell? ⟨w.heap.size + 1, 2, none⟩ = some (.int .i64 0) := (cell_of_block hQ6 2).trans rfl))
          obtain ⟨WF, hWF⟩ : ∃ WF, WF = ((((((((w6.setCell ⟨w.heap.size, 0, none⟩ (.slice none 0 0)).setCell ⟨w.heap.size, 1, none⟩ (.slice none 0 0)).setCell ⟨w.heap.size, 2, none⟩ (.slice none 0 0)).setCell ⟨w.heap.size, 3, none⟩ (.slice none 0 0)).setCell ⟨w.heap.size, 4, none⟩ (.slice none 0 0)).setCell ⟨w.heap.size + 1, 0, none⟩ (.int .i64 (py : Nat))).setCell ⟨w.heap.size + 1, 1, none⟩ (.int .i64 ((pl py).1 : Nat))).setCell ⟨w.heap.size + 1, 2, none⟩ (.int .i64 ((pl py).2 : Nat))) := ⟨_, rfl⟩
          rw [← hWF]
          clear d0 d1 d2 d3 d4 f0 f1 q0 q1 q2 u0 u1 hP6
          obtain ⟨y0, y1, y2, y3, y4, y5, y6, y7, hfb, -⟩ := fin8 (B := w.heap.size) hD6 hQ6 (by omega) (Nat.le_refl _) (Nat.le_succ _) hWF
          have HFB := Lib.hid (HB5.out.trans (((hdr.mono HB5.out.size).trans (hb6.mono (Nat.le_trans HB5.out.size hdr.size))).trans hfb))
          clear hWF hD6 hQ6 hfb hdr hb6 e11 e12 fz
          go_wp2_with fail
          exact bodyPost_ret (v := .tuple #[nil5, .agg #[.int .i64 (py : Nat), .int .i64 ((pl py).1 : Nat), .int .i64 ((pl py).2 : Nat)], .int .i64 (wy : Nat)]) (by simp [results, Tryz.results31, go_sem, y0, y1, y2, y3, y4, y5, y6, y7, nil5]) rfl ⟨HFB.out, by rw [HRE.out]⟩
        | ok md =>
          obtain ⟨va, vm, hP5, hoW, hoM⟩ := hR5
          have hRe : R = .ok ⟨md.W, md.M, r.A, r.B, r.C⟩ := hpa
          obtain ⟨xa, ca, rfl⟩ := hoW.slice
          obtain ⟨xm, cm, rfl⟩ := hoM.slice
          have hoA := HDO.out.oA
          have hoB := HDO.out.oB
          have hoC := HDO.out.oC
          rw [← HZA.out] at hoA
          rw [← HZB.out] at hoB
          rw [← HZC.out] at hoC
          obtain ⟨x1, c1, hv1⟩ := hoA.slice
          obtain ⟨x2, c2, hv2⟩ := hoB.slice
          obtain ⟨x3, c3, hv3⟩ := hoC.slice
          have e6 : w5.cell? ⟨g, 6, none⟩ = some (.slice xa md.W.length ca) := hP5.c6
          have e7 : w5.cell? ⟨g, 7, none⟩ = some (.slice xm md.M.length cm) := hP5.c7
          have e8 : w5.cell? ⟨g, 8, none⟩ = some (.slice x1 r.A.length c1) := hP5.c8.trans (congrArg some hv1)
          have e9 : w5.cell? ⟨g, 9, none⟩ = some (.slice x2 r.B.length c2) := hP5.c9.trans (congrArg some hv2)
          have e10 : w5.cell? ⟨g, 10, none⟩ = some (.slice x3 r.C.length c3) := hP5.c10.trans (congrArg some hv3)
          have e11 : w5.cell? ⟨g, 11, none⟩ = some (.int .i64 0) := hP5.c11.trans (by show some (Value.int .i64 (zz.why : Nat)) = _; rw [HWZ.out]; rfl)
          have hs3 := HS3.out
          have hgs := HGS.out
          have hg3 : g < w3.heap.size := by omega
          have oA := hoA.but hb5 (Nat.le_refl _) hg3
          have oB := hoB.but hb5 (Nat.le_refl _) hg3
          have oC := hoC.but hb5 (Nat.le_refl _) hg3
          have oW := hoW.base_le (base' := w.heap.size) (by have := HBw.out.size; omega)
          have oM := hoM.base_le (base' := w.heap.size) (by have := HBw.out.size; omega)
          have oA := oA.base_le (base' := w.heap.size) (by omega)
          have oB := oB.base_le (base' := w.heap.size) (by omega)
          have oC := oC.base_le (base' := w.heap.size) (by omega)
          have aAB := HDO.out.dAB
          have aAC := HDO.out.dAC
          have aBC := HDO.out.dBC
          rw [← HZA.out, ← HZB.out] at aAB
          rw [← HZA.out, ← HZC.out] at aAC
          rw [← HZB.out, ← HZC.out] at aBC
          rw [hv1] at oA aAB aAC
          rw [hv2] at oB aAB aBC
          rw [hv3] at oC aAC aBC
          have hD5 := (hBw.2.2.2.2 w.heap.size (by omega) (by omega)).trans HD2.out
          have hQ5 := (hBw.2.2.2.2 (w.heap.size + 1) (by omega) (by omega)).trans HQ2.out
          have hB5 : Below w.heap.size w w5 := HB3.out.trans (hBw.toBelow (by omega) (by omega))
          have f0 := fun j => unfrozen_of_block hD5 j
          have f1 := fun j => unfrozen_of_block hQ5 j
          have d0 : w5.cell? ⟨w.heap.size, 0, none⟩ = some (.slice none 0 0) := (cell_of_block hD5 0).trans rfl
          have d1 : w5.cell? ⟨w.heap.size, 1, none⟩ = some (.slice none 0 0) := (cell_of_block hD5 1).trans rfl
          have d2 : w5.cell? ⟨w.heap.size, 2, none⟩ = some (.slice none 0 0) := (cell_of_block hD5 2).trans rfl
          have d3 : w5.cell? ⟨w.heap.size, 3, none⟩ = some (.slice none 0 0) := (cell_of_block hD5 3).trans rfl
          have d4 : w5.cell? ⟨w.heap.size, 4, none⟩ = some (.slice none 0 0) := (cell_of_block hD5 4).trans rfl
          have q0 : w5.cell? ⟨w.heap.size + 1, 0, none⟩ = some (.int .i64 0) := (cell_of_block hQ5 0).trans rfl
          have q1 : w5.cell? ⟨w.heap.size + 1, 1, none⟩ = some (.int .i64 0) := (cell_of_block hQ5 1).trans rfl
          have q2 : w5.cell? ⟨w.heap.size + 1, 2, none⟩ = some (.int .i64 0) := (cell_of_block hQ5 2).trans rfl
          have HRe := Lib.hid hRe
          have HOW := Lib.hid oW
          have HOM := Lib.hid oM
          have HOA := Lib.hid oA
          have HOB := Lib.hid oB
          have HOC := Lib.hid oC
          have HAB := Lib.hid aAB
          have HAC := Lib.hid aAC
          have HBC := Lib.hid aBC
          have HD5 := Lib.hid hD5
          have HQ5 := Lib.hid hQ5
          have HB5 := Lib.hid hB5
          have n2 : g ≠ w.heap.size := by omega
          have n3 : g ≠ w.heap.size + 1 := by omega
          clear hpa hb5 hBw hP5 hoW hoM hoA hoB hoC hv1 hv2 hv3 hs3 hgs hg3 oW oM oA oB oC aAB aAC aBC hD5 hQ5 hB5 hRe
          go_wp2_with fail
          obtain ⟨WF, hWF⟩ : ∃ WF, WF = ((((((((w5.setCell ⟨w.heap.size, 0, none⟩ (.slice xa md.W.length ca)).setCell ⟨w.heap.size, 1, none⟩ (.slice xm md.M.length cm)).setCell ⟨w.heap.size, 2, none⟩ (.slice x1 r.A.length c1)).setCell ⟨w.heap.size, 3, none⟩ (.slice x2 r.B.length c2)).setCell ⟨w.heap.size, 4, none⟩ (.slice x3 r.C.length c3)).setCell ⟨w.heap.size + 1, 0, none⟩ (.int .i64 0)).setCell ⟨w.heap.size + 1, 1, none⟩ (.int .i64 0)).setCell ⟨w.heap.size + 1, 2, none⟩ (.int .i64 0)) := ⟨_, rfl⟩
          rw [← hWF]
          clear d0 d1 d2 d3 d4 f0 f1 q0 q1 q2 e6 e7 e8 e9 e10 e11 g0
          obtain ⟨y0, y1, y2, y3, y4, y5, y6, y7, hfb, hkk⟩ := fin8 (B := w.heap.size) HD5.out HQ5.out (by omega) (Nat.le_refl _) (Nat.le_succ _) hWF
          clear hWF
          have hkt : ∀ (T : TypeId), T ≠ 26 → T ≠ 69 → ∀ (b : Nat) (cur : Array Value), w5.heap[b]? = some (Obj.cells cur T (0, 0)) → WF.heap[b]? = w5.heap[b]? := fun T hT hT2 b cur hb => hkk b
            (fun e => by have h2 := HD5.out; rw [← e, hb] at h2; injection h2 with h2; injection h2 with _ h2; exact hT h2)
            (fun e => by have h2 := HQ5.out; rw [← e, hb] at h2; injection h2 with h2; injection h2 with _ h2; exact hT2 h2)
          have HEND : Hid (ParsePost w pl R (.returned (.tuple #[.agg #[.slice xa md.W.length ca, .slice xm md.M.length cm, .slice x1 r.A.length c1, .slice x2 r.B.length c2, .slice x3 r.C.length c3], .agg #[.int .i64 0, .int .i64 0, .int .i64 0], .int .i64 0])) WF) := Lib.hid ⟨HB5.out.trans hfb, by
            rw [HRe.out]
            exact ⟨_, _, _, _, _, rfl, ⟨HOW.out.kt (hkt _ (by decide) (by decide)), HOM.out.kt (hkt _ (by decide) (by decide)), HOA.out.kt (hkt _ (by decide) (by decide)), HOB.out.kt (hkt _ (by decide) (by decide)), HOC.out.kt (hkt _ (by decide) (by decide)), HAB.out, HAC.out, HBC.out⟩⟩⟩
          clear hkt hkk hfb
          exact bodyPost_ret (v := .tuple #[.agg #[.slice xa md.W.length ca, .slice xm md.M.length cm, .slice x1 r.A.length c1, .slice x2 r.B.length c2, .slice x3 r.C.length c3], .agg #[.int .i64 0, .int .i64 0, .int .i64 0], .int .i64 0]) (by simp [results, Tryz.results31, go_sem, y0, y1, y2, y3, y4, y5, y6, y7]) rfl HEND.out
end Go.Proofs.YtonbfcpbgkpbaaaGreatDoor
end
