/- recipe's parser.spans: its contract. -/
import Derived.Test.YtonbfcpbgkpbaaaQSpans
namespace Go.Proofs.Ytonbfcpbgkpbaaa
open Go.RowKit Go.Sort Go.Joins
set_option linter.unusedVariables false
set_option linter.unusedSimpArgs false
set_option maxRecDepth 100000
theorem take_sign (l : List UInt8) (x : ByteArray) (hx : x = textOf l) (g : Nat) (src : ByteArray) (st : PS) (d : DV) (w : World) (h : PX w g src st d) (hs : src.size ≤ 4194304) :
    Calls Try.prog 42 #[.pointer (some ⟨g, 0, none⟩), .int .i64 5, .slice (some ⟨w.heap.size, 0, none⟩) 1 1] (w.alloc (.cells #[.string x] 9)) (TakePost w g src d (takeP (sgn l) st)) := by
  have hb := box_below w (.cells #[.string x] 9)
  have hT := take_any g src st d 5 (some ⟨w.heap.size, 0, none⟩) 1 [x] (w.alloc (.cells #[.string x] 9)) (h.below hb h.lt) (texts_new w [x]) (by simp) hs (by omega)
  rw [hx, mW_sgn, ← hx] at hT
  refine hT.mono ?_
  rintro e w' ⟨rfl, h1, h2⟩
  exact ⟨rfl, h1, (But.of_below hb).trans (h2.mono hb.size)⟩
theorem meets_sign (l : List UInt8) (x : ByteArray) (hx : x = textOf l) (g : Nat) (src : ByteArray) (st : PS) (d : DV) (w : World) (h : PX w g src st d) :
    Calls Try.prog 69 #[.pointer (some ⟨g, 0, none⟩), .int .i64 5, .slice (some ⟨w.heap.size, 0, none⟩) 1 1] (w.alloc (.cells #[.string x] 9)) fun e w' => e = .returned (.bool (meetP (sgn l) st)) ∧ w' = w.alloc (.cells #[.string x] 9) := by
  have hb := box_below w (.cells #[.string x] 9)
  have hT := meets_any g src st d 5 (some ⟨w.heap.size, 0, none⟩) 1 [x] (w.alloc (.cells #[.string x] 9)) (h.below hb h.lt) (texts_new w [x]) (by simp)
  rw [hx, mW_sgn, ← hx] at hT
  exact hT
theorem meets_kind (g : Nat) (src : ByteArray) (st : PS) (d : DV) (k : Nat) (w : World) (h : PX w g src st d) :
    Calls Try.prog 69 #[.pointer (some ⟨g, 0, none⟩), .int .i64 (k : Nat), .slice none 0 0] w fun e w' => e = .returned (.bool (meetP (mEmpty k) st)) ∧ w' = w := by
  have hT := meets_any g src st d k none 0 [] w h (.inl rfl) (by simp)
  rw [mW_nil] at hT
  exact hT
theorem rune_math (g : Nat) (src : ByteArray) (st : PS) (d : DV) (w : World) (h : PX w g src st d) (ht : Toks st) (hs : src.size ≤ 4194304) :
    Calls Try.prog 70 #[.pointer (some ⟨g, 0, none⟩)] w fun e w' => e = .returned (.int .i32 (runeV (takeP (mEmpty 3) st).1.s : Nat)) ∧ PX w' g src (takeP (mEmpty 3) st).2 d ∧ But g w.heap.size w w' := by
  have := rune_any g src st d w h ht hs
  rw [mW_nil] at this
  exact this
/-- One span is laid behind the others. -/
theorem span_app (wr : World) (base : Nat) (v : Value) (l : List Sp) (lo hi : Int) (hown : OwnG 61 2 encS wr base v l) (hb : base ≤ wr.heap.size) (hl : l.length ≤ 8388608) :
    ∃ v' w', (Builtin.append_ #[25, 25] 25 #[v, .slice (some ⟨wr.heap.size, 0, none⟩) 1 1]).run Try.prog (wr.alloc (.cells #[.int .i32 lo, .int .i32 hi] 61)) = .ok v' w' ∧ OwnG 61 2 encS w' base v' (l ++ [⟨lo, hi⟩]) ∧ Bu wr.heap.size v.ownBlock wr.heap.size wr w' ∧ Moved v v' wr.heap.size := by
  obtain ⟨i0, hi0, hz0, hz1, hz2⟩ := info_parts infoSp
  have bx := box_below wr (.cells #[.int .i32 lo, .int .i32 hi] 61)
  obtain ⟨v', w', h1, h2, h3, h4⟩ := run_own_g 25 61 i0 _ 2 8 encS (fun _ => rfl) (by omega) encS_one Try.underlying25 hi0 hz0 hz1 hz2 rfl (wr.alloc (.cells #[.int .i32 lo, .int .i32 hi] 61)) base v l ⟨lo, hi⟩ wr.heap.size 1 (hown.below bx (Nat.le_refl _)) (heap_alloc_new wr _) (by simp; omega) (by omega) (by omega)
  refine ⟨v', w', h1, h2, ⟨h3.os.trans bx.os, h3.tape.trans bx.tape, h3.output.trans bx.output, Nat.le_trans bx.size h3.size, fun k hk hne ho => (h3.block k (by have := bx.size; omega) ho).trans (bx.block k hk)⟩, fun b hbb => ?_⟩
  rcases h4 b hbb with h | h
  · exact .inl h
  · exact .inr (Nat.le_trans bx.size h)
set_option maxHeartbeats 1000000 in
theorem spans_any (g base o : Nat) (ho : o = 8 ∨ o = 9 ∨ o = 10) (src : ByteArray) (st : PS) (d : DV) (l0 : List Sp) (w : World) (h : PX w g src st d) (ht : Toks st) (hs : src.size ≤ 4194304) (hown : OwnG 61 2 encS w base (d.get o) l0) (hg : g < base) (hbase : base ≤ w.heap.size) (hl : l0.length + st.2.length ≤ 8388608) :
    Calls Try.prog 44 #[.pointer (some ⟨g, 0, none⟩), .pointer (some ⟨g, o, none⟩)] w fun e w' => e = .returned (.tuple #[]) ∧ ∃ v, PX w' g src (spansP st).2 (d.set o v) ∧ OwnG 61 2 encS w' base v (l0 ++ (spansP st).1) ∧ Bu g (d.get o).ownBlock w.heap.size w w' ∧ Moved (d.get o) v w.heap.size ∧ Toks (spansP st).2 := by
  have H1 := take_sign sOpen ⟨#[123]⟩ rfl g src st d w h hs
  have htk := (ht.take (sgn sOpen)).1
  have hll := take_length (sgn sOpen) st
  have HSP : Hid (spansP st = ((spanF (takeP (sgn sOpen) st).2.2.length (takeP (sgn sOpen) st).2).1, (takeP (sgn sShut) (spanF (takeP (sgn sOpen) st).2.2.length (takeP (sgn sOpen) st).2).2).2)) := Lib.hid rfl
  obtain ⟨⟨t1, st1⟩, hr1⟩ : ∃ r, r = takeP (sgn sOpen) st := ⟨_, rfl⟩
  rw [← hr1] at H1 htk HSP hll
  simp only at htk HSP hll
  have HOWN := Lib.hid hown
  clear hr1 h ht hown
  go_enter Try.func44, Try.ntmps44
  go_wp2_with fail
  refine H1.mono ?_
  rintro e w1 ⟨rfl, hP1, hb1⟩
  have HP1 : Hid (PX w1 g src st1 d) := Lib.hid hP1
  have HB1 := Lib.hid hb1
  clear H1 hP1 hb1
  go_wp2_with fail
  go_loopg [] st1.2.length (fun k wr => SpI w g base o src d l0 st1 st1.2.length k wr)
  case atStart => exact ⟨[], st1, d.get o, by rw [DV.set_get]; exact HP1.out, by rw [List.append_nil]; exact HOWN.out.but HB1.out (Nat.le_refl _) hg, .of_but HB1.out, fun b hb => .inl hb, htk, Nat.le_refl _, by simp, by simp⟩
  case round =>
    obtain ⟨acc, st2, v, hP, hO, hB, hM, hT, hf, ha, hsp⟩ := hrel
    have HMT := meets_kind g src st2 (d.set o v) 3 wr hP
    have HSPF := Lib.hid hsp
    have hsz := hB.size
    cases hm : meetP (mEmpty 3) st2 with
    | false =>
      rw [hm] at HMT
      have HP2 := Lib.hid hP
      have HO2 := Lib.hid hO
      have HB2 := Lib.hid hB
      have HM2 := Lib.hid hM
      have HT2 := Lib.hid hT
      have HNO := Lib.hid (spanF_no (f := gk) hm)
      clear hP hO hB hM hT hsp hm
      go_wp2_with fail
      refine HMT.mono ?_
      rintro e w2 ⟨rfl, he⟩
      obtain rfl := he.symm
      have H2 := take_sign sShut ⟨#[125]⟩ rfl g src st2 (d.set o v) wr HP2.out hs
      clear HMT
      go_wp2_with fail
      refine H2.mono ?_
      rintro e w3 ⟨rfl, hP3, hb3⟩
      clear H2
      go_wp2_with fail
      refine bodyPost_end (results_none rfl _ _ _) rfl ?_
      have e1 : spanF st1.2.length st1 = (acc, st2) := by rw [HSPF.out, HNO.out, List.append_nil]
      have e2 : spansP st = (acc, (takeP (sgn sShut) st2).2) := by rw [HSP.out, e1]
      rw [e2]
      refine ⟨rfl, v, hP3, HO2.out.but hb3 (Nat.le_refl _) hg, HB2.out.trans (.of_but (hb3.mono hsz)), HM2.out, (HT2.out.take (sgn sShut)).1⟩
    | true =>
      rw [hm] at HMT
      have hless := spanP_less hm
      obtain ⟨f, hfk⟩ : ∃ f, gk = f + 1 := ⟨gk - 1, by omega⟩
      have HR1 := rune_math g src st2 (d.set o v) wr hP hT hs
      have hT2 := (hT.take (mEmpty 3)).1
      have HSE : Hid (spanP st2 = if meetP (sgn sTo) (takeP (mEmpty 3) st2).2 = true then (⟨runeV (takeP (mEmpty 3) st2).1.s, runeV (takeP (mEmpty 3) (takeP (sgn sTo) (takeP (mEmpty 3) st2).2).2).1.s⟩, (takeP (mEmpty 3) (takeP (sgn sTo) (takeP (mEmpty 3) st2).2).2).2) else (⟨runeV (takeP (mEmpty 3) st2).1.s, runeV (takeP (mEmpty 3) st2).1.s⟩, (takeP (mEmpty 3) st2).2)) := Lib.hid (by unfold spanP; rfl)
      obtain ⟨⟨t3, st3⟩, hr3⟩ : ∃ r, r = takeP (mEmpty 3) st2 := ⟨_, rfl⟩
      rw [← hr3] at HR1 hT2 HSE
      simp only at HR1 hT2 HSE
      have hTS := hT.span
      have HYES := Lib.hid (spanF_yes (f := f) hm)
      have HP2 := Lib.hid hP
      have HO2 := Lib.hid hO
      have HB2 := Lib.hid hB
      have HM2 := Lib.hid hM
      have HFK := Lib.hid hfk
      obtain ⟨lo, hlo⟩ : ∃ x, x = runeV t3.s := ⟨_, rfl⟩
      rw [← hlo] at HR1 HSE
      clear hP hO hB hM hT hsp hm hr3 hlo hfk
      go_wp2_with fail
      refine HMT.mono ?_
      rintro e w2 ⟨rfl, he⟩
      obtain rfl := he.symm
      clear HMT
      go_wp2_with fail
      refine HR1.mono ?_
      rintro e w3 ⟨rfl, hP3, hb3⟩
      have hO3 := HO2.out.but hb3 (Nat.le_refl _) hg
      have hB3 := HB2.out.trans (.of_but (hb3.mono hsz))
      have HMS := meets_sign sTo ⟨#[46, 46]⟩ rfl g src st3 (d.set o v) w3 hP3
      clear HR1 hb3
      cases hms : meetP (sgn sTo) st3 with
      | false =>
        rw [hms] at HMS
        have hse := HSE.out
        rw [hms, if_neg (by decide)] at hse
        have HSE2 := Lib.hid hse
        have bx := box_below w3 (.cells #[.string ⟨#[46, 46]⟩] 9)
        have hP4 := hP3.below bx hP3.lt
        have hO4 := hO3.below bx (Nat.le_refl _)
        have hB4 := hB3.trans (.of_but ((But.of_below bx).mono hB3.size))
        obtain ⟨w4, hw4⟩ : ∃ w4, w4 = w3.alloc (.cells #[.string ⟨#[46, 46]⟩] 9) := ⟨_, rfl⟩
        rw [← hw4] at hP4 hO4 hB4
        have HW4 := Lib.hid hw4
        obtain ⟨v', w5, hr5, hO5, hB5, hM5⟩ := span_app w4 base v (l0 ++ acc) lo lo hO4 (by have := hB4.size; omega) (by rw [List.length_append]; omega)
        obtain ⟨hc4, -⟩ := hP4.cell ho
        rw [DV.get_set] at hc4
        have hP5 : PX w5 g src st3 (d.set o v) := hP4.bu (hB5.block g hP4.lt (by have := hP4.lt; omega) (fun e => by
          have := (hO4.block e.symm).1
          omega))
        obtain ⟨-, hf5⟩ := hP5.cell ho
        have hc5 := (hP5.cell ho).1
        have hP6 := hP5.put ho v'
        rw [DV.set_set] at hP6
        have hO6 := hO5.but ((But.refl g w5.heap.size w5).setCell o v') (Nat.le_refl _) hg
        have hB6 : Bu g (d.get o).ownBlock w.heap.size w w5 := ⟨hB5.os.trans hB4.os, hB5.tape.trans hB4.tape, hB5.output.trans hB4.output, Nat.le_trans hB4.size hB5.size, fun k hk hkg hko => by
          have hk4 : k < w4.heap.size := Nat.lt_of_lt_of_le hk hB4.size
          refine (hB5.block k hk4 (by omega) (fun e => ?_)).trans (hB4.block k hk hkg hko)
          rcases HM2.out k e.symm with h1 | h1
          · exact hko h1.symm
          · omega⟩
        have hM6 : Moved (d.get o) v' w.heap.size := fun b hb => by
          rcases hM5 b hb with h1 | h1
          · exact HM2.out b h1
          · exact .inr (Nat.le_trans hB4.size h1)
        obtain ⟨gg, n, cap, hv, hn⟩ := hO5.form (by simp; omega)
        subst hv
        have HP6 := Lib.hid hP6
        have HO6 := Lib.hid hO6
        have HB6 := Lib.hid (hB6.setCell o (.slice (some ⟨gg, 0, none⟩) n cap))
        have HM6 := Lib.hid hM6
        have HTS := Lib.hid hTS
        clear hn hse hms hP3 hO3 hB3 bx hP4 hO4 hB4 hw4 hO5 hB5 hM5 hP5 hP6 hTS hO6 hB6 hM6
        go_wp2_with fail
        refine HMS.mono ?_
        rintro e w6 ⟨rfl, he⟩
        obtain rfl := he.symm
        rw [← HW4.out]
        clear HMS
        go_wp2_with (at_builtin; refine wpList_append_run rfl (.tmp 25) (.tmp 29) 25 25 rfl _ _ rfl rfl _ w5 hr5 ?_; clear hr5)
        go_roundg f
        case measure => have := HFK.out; omega
        case rel =>
          refine ⟨acc ++ [⟨(lo : Int), (lo : Int)⟩], st3, _, HP6.out, by rw [← List.append_assoc]; exact HO6.out, HB6.out, HM6.out, ?_, ?_, ?_, ?_⟩
          · have := HTS.out; rw [HSE2.out] at this; exact this
          · have := HFK.out; have h2 := hless; rw [HSE2.out] at h2; simp only at h2; omega
          · have h2 := hless; rw [HSE2.out] at h2; simp only at h2; rw [List.length_append]; simp only [List.length_cons, List.length_nil]; omega
          · rw [HSPF.out, HFK.out, HYES.out, HSE2.out]; simp
      | true =>
        rw [hms] at HMS
        have hse := HSE.out
        rw [hms, if_pos rfl] at hse
        have HSE2 := Lib.hid hse
        have bx3 := box_below w3 (.cells #[.string ⟨#[46, 46]⟩] 9)
        have hP3' := hP3.below bx3 hP3.lt
        have hO3' := hO3.below bx3 (Nat.le_refl _)
        have hB3' := hB3.trans (.of_but ((But.of_below bx3).mono hB3.size))
        obtain ⟨wx, hwx⟩ : ∃ wx, wx = w3.alloc (.cells #[.string ⟨#[46, 46]⟩] 9) := ⟨_, rfl⟩
        rw [← hwx] at hP3' hO3' hB3'
        have HWX := Lib.hid hwx
        have H4 := take_sign sTo ⟨#[46, 46]⟩ rfl g src st3 (d.set o v) wx hP3' hs
        have hT4 := (hT2.take (sgn sTo)).1
        obtain ⟨⟨t4, st4⟩, hr4⟩ : ∃ r, r = takeP (sgn sTo) st3 := ⟨_, rfl⟩
        rw [← hr4] at H4 hT4 HSE2
        simp only at hT4 HSE2
        have HO3 := Lib.hid hO3'
        have HB3 := Lib.hid hB3'
        have HT4 := Lib.hid hT4
        have HTS := Lib.hid hTS
        clear hse hms hP3 hO3 hB3 bx3 hP3' hO3' hB3' hwx hr4 hT4 hTS
        go_wp2_with fail
        refine HMS.mono ?_
        rintro e w6 ⟨rfl, he⟩
        obtain rfl := he.symm
        rw [← HWX.out]
        clear HMS
        go_wp2_with fail
        refine H4.mono ?_
        rintro e w7 ⟨rfl, hP7, hb7⟩
        have HR5 := rune_math g src st4 (d.set o v) w7 hP7 HT4.out hs
        have hO7 := HO3.out.but hb7 (Nat.le_refl _) hg
        have hB7 := HB3.out.trans (.of_but (hb7.mono HB3.out.size))
        obtain ⟨⟨t5, st5⟩, hr5⟩ : ∃ r, r = takeP (mEmpty 3) st4 := ⟨_, rfl⟩
        have hse2 := HSE2.out
        rw [← hr5] at HR5 hse2
        simp only at HR5 hse2
        obtain ⟨hi, hhi⟩ : ∃ x, x = runeV t5.s := ⟨_, rfl⟩
        rw [← hhi] at HR5 hse2
        have HSE2 := Lib.hid hse2
        clear H4 hP7 hb7 hr5 hhi hse2
        go_wp2_with fail
        refine HR5.mono ?_
        rintro e w4 ⟨rfl, hP4, hb4⟩
        have hO4 := hO7.but hb4 (Nat.le_refl _) hg
        have hB4 := hB7.trans (.of_but (hb4.mono hB7.size))
        have hTS := HTS.out
        obtain ⟨v', w5, hr5, hO5, hB5, hM5⟩ := span_app w4 base v (l0 ++ acc) lo hi hO4 (by have := hB4.size; omega) (by rw [List.length_append]; omega)
        clear HR5 hO7 hB7 hb4 HTS
        obtain ⟨hc4, -⟩ := hP4.cell ho
        rw [DV.get_set] at hc4
        have hP5 : PX w5 g src st5 (d.set o v) := hP4.bu (hB5.block g hP4.lt (by have := hP4.lt; omega) (fun e => by
          have := (hO4.block e.symm).1
          omega))
        obtain ⟨-, hf5⟩ := hP5.cell ho
        have hc5 := (hP5.cell ho).1
        have hP6 := hP5.put ho v'
        rw [DV.set_set] at hP6
        have hO6 := hO5.but ((But.refl g w5.heap.size w5).setCell o v') (Nat.le_refl _) hg
        have hB6 : Bu g (d.get o).ownBlock w.heap.size w w5 := ⟨hB5.os.trans hB4.os, hB5.tape.trans hB4.tape, hB5.output.trans hB4.output, Nat.le_trans hB4.size hB5.size, fun k hk hkg hko => by
          have hk4 : k < w4.heap.size := Nat.lt_of_lt_of_le hk hB4.size
          refine (hB5.block k hk4 (by omega) (fun e => ?_)).trans (hB4.block k hk hkg hko)
          rcases HM2.out k e.symm with h1 | h1
          · exact hko h1.symm
          · omega⟩
        have hM6 : Moved (d.get o) v' w.heap.size := fun b hb => by
          rcases hM5 b hb with h1 | h1
          · exact HM2.out b h1
          · exact .inr (Nat.le_trans hB4.size h1)
        obtain ⟨gg, n, cap, hv, hn⟩ := hO5.form (by simp; omega)
        subst hv
        have HP6 := Lib.hid hP6
        have HO6 := Lib.hid hO6
        have HB6 := Lib.hid (hB6.setCell o (.slice (some ⟨gg, 0, none⟩) n cap))
        have HM6 := Lib.hid hM6
        have HTS := Lib.hid hTS
        clear hn hP4 hO4 hB4 hO5 hB5 hM5 hP5 hP6 hTS hO6 hB6 hM6
        go_wp2_with (at_builtin; refine wpList_append_run rfl (.tmp 25) (.tmp 29) 25 25 rfl _ _ rfl rfl _ w5 hr5 ?_; clear hr5)
        go_roundg f
        case measure => have := HFK.out; omega
        case rel =>
          refine ⟨acc ++ [⟨(lo : Int), (hi : Int)⟩], st5, _, HP6.out, by rw [← List.append_assoc]; exact HO6.out, HB6.out, HM6.out, ?_, ?_, ?_, ?_⟩
          · have := HTS.out; rw [HSE2.out] at this; exact this
          · have := HFK.out; have h2 := hless; rw [HSE2.out] at h2; simp only at h2; omega
          · have h2 := hless; rw [HSE2.out] at h2; simp only at h2; rw [List.length_append]; simp only [List.length_cons, List.length_nil]; omega
          · rw [HSPF.out, HFK.out, HYES.out, HSE2.out]; simp
end Go.Proofs.Ytonbfcpbgkpbaaa
