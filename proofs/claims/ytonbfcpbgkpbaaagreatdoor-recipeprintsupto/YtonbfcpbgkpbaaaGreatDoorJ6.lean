import Derived.Test.YtonbfcpbgkpbaaaGreatDoorJ5
import Derived.StillTail
import Derived.Below
section
/- recipe's parser.spans: its contract. -/
namespace Go.Proofs.YtonbfcpbgkpbaaaGreatDoor
open Go.RowKit Go.Sort Go.Joins
set_option linter.unusedVariables false
set_option linter.unusedSimpArgs false
set_option maxRecDepth 100000
theorem take_sign (l : List UInt8) (x : ByteArray) (hx : x = textOf l) (g : Nat) (src : ByteArray) (st : PS) (d : DV) (w : World) (h : PX w g src st d) (hs : src.size ≤ 4194304) :
    Calls Tryz.prog 55 #[.pointer (some ⟨g, 0, none⟩), .int .i64 5, .slice (some ⟨w.heap.size, 0, none⟩) 1 1] (w.alloc (.cells #[.string x] 9)) (TakePost w g src d (takeP (sgn l) st)) := by
  have hb := box_below w (.cells #[.string x] 9)
  have hT := take_any g src st d 5 (some ⟨w.heap.size, 0, none⟩) 1 [x] (w.alloc (.cells #[.string x] 9)) (h.below hb h.lt) (texts_new w [x]) (by simp) hs (by omega)
  rw [hx, mW_sgn, ← hx] at hT
  refine hT.mono ?_
  rintro e w' ⟨rfl, h1, h2⟩
  exact ⟨rfl, h1, (But.of_below hb).trans (h2.mono hb.size)⟩
theorem meets_sign (l : List UInt8) (x : ByteArray) (hx : x = textOf l) (g : Nat) (src : ByteArray) (st : PS) (d : DV) (w : World) (h : PX w g src st d) :
    Calls Tryz.prog 85 #[.pointer (some ⟨g, 0, none⟩), .int .i64 5, .slice (some ⟨w.heap.size, 0, none⟩) 1 1] (w.alloc (.cells #[.string x] 9)) fun e w' => e = .returned (.bool (meetP (sgn l) st)) ∧ w' = w.alloc (.cells #[.string x] 9) := by
  have hb := box_below w (.cells #[.string x] 9)
  have hT := meets_any g src st d 5 (some ⟨w.heap.size, 0, none⟩) 1 [x] (w.alloc (.cells #[.string x] 9)) (h.below hb h.lt) (texts_new w [x]) (by simp)
  rw [hx, mW_sgn, ← hx] at hT
  exact hT
theorem meets_kind (g : Nat) (src : ByteArray) (st : PS) (d : DV) (k : Nat) (w : World) (h : PX w g src st d) :
    Calls Tryz.prog 85 #[.pointer (some ⟨g, 0, none⟩), .int .i64 (k : Nat), .slice none 0 0] w fun e w' => e = .returned (.bool (meetP (mEmpty k) st)) ∧ w' = w := by
  have hT := meets_any g src st d k none 0 [] w h (.inl rfl) (by simp)
  rw [mW_nil] at hT
  exact hT
theorem rune_math (g : Nat) (src : ByteArray) (st : PS) (d : DV) (w : World) (h : PX w g src st d) (ht : Toks st) (hs : src.size ≤ 4194304) :
    Calls Tryz.prog 86 #[.pointer (some ⟨g, 0, none⟩)] w fun e w' => e = .returned (.int .i32 (runeV (takeP (mEmpty 3) st).1.s : Nat)) ∧ PX w' g src (takeP (mEmpty 3) st).2 d ∧ But g w.heap.size w w' := by
  have := rune_any g src st d w h ht hs
  rw [mW_nil] at this
  exact this
/-- One span is laid behind the others. -/
theorem span_app (wr : World) (base : Nat) (v : Value) (l : List Sp) (lo hi : Int) (hown : OwnG 41 2 encS wr base v l) (hb : base ≤ wr.heap.size) (hl : l.length ≤ 8388608) :
    ∃ v' w', (Builtin.append_ #[24, 24] 24 #[v, .slice (some ⟨wr.heap.size, 0, none⟩) 1 1]).run Tryz.prog (wr.alloc (.cells #[.int .i32 lo, .int .i32 hi] 41)) = .ok v' w' ∧ OwnG 41 2 encS w' base v' (l ++ [⟨lo, hi⟩]) ∧ Bu wr.heap.size v.ownBlock wr.heap.size wr w' ∧ Moved v v' wr.heap.size := by
  obtain ⟨i0, hi0, hz0, hz1, hz2⟩ := info_parts infoSp
  have bx := box_below wr (.cells #[.int .i32 lo, .int .i32 hi] 41)
  obtain ⟨v', w', h1, h2, h3, h4⟩ := run_own_g 24 41 i0 _ 2 8 encS (fun _ => rfl) (by omega) encS_one Tryz.underlying24 hi0 hz0 hz1 hz2 rfl (wr.alloc (.cells #[.int .i32 lo, .int .i32 hi] 41)) base v l ⟨lo, hi⟩ wr.heap.size 1 (hown.below bx (Nat.le_refl _)) (heap_alloc_new wr _) (by simp; omega) (by omega) (by omega)
  refine ⟨v', w', h1, h2, ⟨h3.os.trans bx.os, h3.tape.trans bx.tape, h3.output.trans bx.output, Nat.le_trans bx.size h3.size, fun k hk hne ho => (h3.block k (by have := bx.size; omega) ho).trans (bx.block k hk)⟩, fun b hbb => ?_⟩
  rcases h4 b hbb with h | h
  · exact .inl h
  · exact .inr (Nat.le_trans bx.size h)
set_option maxHeartbeats 1000000 in
theorem spans_any (g base o : Nat) (ho : o = 8 ∨ o = 9 ∨ o = 10) (src : ByteArray) (st : PS) (d : DV) (l0 : List Sp) (w : World) (h : PX w g src st d) (ht : Toks st) (hs : src.size ≤ 4194304) (hown : OwnG 41 2 encS w base (d.get o) l0) (hg : g < base) (hbase : base ≤ w.heap.size) (hl : l0.length + st.2.length ≤ 8388608) :
    Calls Tryz.prog 57 #[.pointer (some ⟨g, 0, none⟩), .pointer (some ⟨g, o, none⟩)] w fun e w' => e = .returned (.tuple #[]) ∧ ∃ v, PX w' g src (spansP st).2 (d.set o v) ∧ OwnG 41 2 encS w' base v (l0 ++ (spansP st).1) ∧ Bu g (d.get o).ownBlock w.heap.size w w' ∧ Moved (d.get o) v w.heap.size ∧ Toks (spansP st).2 := by
  have H1 := take_sign sOpen ⟨#[123]⟩ rfl g src st d w h hs
  have htk := (ht.take (sgn sOpen)).1
  have hll := take_length (sgn sOpen) st
  have HSP : Hid (spansP st = ((spanF (takeP (sgn sOpen) st).2.2.length (takeP (sgn sOpen) st).2).1, (takeP (sgn sShut) (spanF (takeP (sgn sOpen) st).2.2.length (takeP (sgn sOpen) st).2).2).2)) := Lib.hid rfl
  obtain ⟨⟨t1, st1⟩, hr1⟩ : ∃ r, r = takeP (sgn sOpen) st := ⟨_, rfl⟩
  rw [← hr1] at H1 htk HSP hll
  simp only at htk HSP hll
  have HOWN := Lib.hid hown
  clear hr1 h ht hown
  go_enter Tryz.func57, Tryz.ntmps57
  go_wp2_with fail
  refine H1.mono ?_
  rintro e w1 ⟨rfl, hP1, hb1⟩
  have HP1 : Hid (PX w1 g src st1 d) := Lib.hid hP1
  have HB1 := Lib.hid hb1
  clear H1 hP1 hb1
  go_wp2_with fail
  go_loopg [] st1.2.length (fun k wr => SpI w g base o src d l0 st1 st1.2.length k wr)
  case atStart => exact ⟨[], st1, d.get o, by rw [DV.set_get]; exact HP1.out, by rw [List.append_nil]; exact HOWN.out.but HB1.out (Nat.le_refl _) hg, .of_but HB1.out, fun b hb => .inl hb, htk, Nat.le_refl _, by simp, by simp⟩
  case round =>
    obtain ⟨acc, st2, v, hP, hO, hB, hM, hT, hf, ha, hsp⟩ := hrel
    have HMT := meets_kind g src st2 (d.set o v) 3 wr hP
    have HSPF := Lib.hid hsp
    have hsz := hB.size
    cases hm : meetP (mEmpty 3) st2 with
    | false =>
      rw [hm] at HMT
      have HP2 := Lib.hid hP
      have HO2 := Lib.hid hO
      have HB2 := Lib.hid hB
      have HM2 := Lib.hid hM
      have HT2 := Lib.hid hT
      have HNO := Lib.hid (spanF_no (f := gk) hm)
      clear hP hO hB hM hT hsp hm
      go_wp2_with fail
      refine HMT.mono ?_
      rintro e w2 ⟨rfl, he⟩
      obtain rfl := he.symm
      have H2 := take_sign sShut ⟨#[125]⟩ rfl g src st2 (d.set o v) wr HP2.out hs
      clear HMT
      go_wp2_with fail
      refine H2.mono ?_
      rintro e w3 ⟨rfl, hP3, hb3⟩
      clear H2
      go_wp2_with fail
      refine bodyPost_end (results_none rfl _ _ _) rfl ?_
      have e1 : spanF st1.2.length st1 = (acc, st2) := by rw [HSPF.out, HNO.out, List.append_nil]
      have e2 : spansP st = (acc, (takeP (sgn sShut) st2).2) := by rw [HSP.out, e1]
      rw [e2]
      refine ⟨rfl, v, hP3, HO2.out.but hb3 (Nat.le_refl _) hg, HB2.out.trans (.of_but (hb3.mono hsz)), HM2.out, (HT2.out.take (sgn sShut)).1⟩
    | true =>
      rw [hm] at HMT
      have hless := spanP_less hm
      obtain ⟨f, hfk⟩ : ∃ f, gk = f + 1 := ⟨gk - 1, by omega⟩
      have HR1 := rune_math g src st2 (d.set o v) wr hP hT hs
      have hT2 := (hT.take (mEmpty 3)).1
      have HSE : Hid (spanP st2 = if meetP (sgn sTo) (takeP (mEmpty 3) st2).2 = true then (⟨runeV (takeP (mEmpty 3) st2).1.s, runeV (takeP (mEmpty 3) (takeP (sgn sTo) (takeP (mEmpty 3) st2).2).2).1.s⟩, (takeP (mEmpty 3) (takeP (sgn sTo) (takeP (mEmpty 3) st2).2).2).2) else (⟨runeV (takeP (mEmpty 3) st2).1.s, runeV (takeP (mEmpty 3) st2).1.s⟩, (takeP (mEmpty 3) st2).2)) := Lib.hid (by unfold spanP; rfl)
      obtain ⟨⟨t3, st3⟩, hr3⟩ : ∃ r, r = takeP (mEmpty 3) st2 := ⟨_, rfl⟩
      rw [← hr3] at HR1 hT2 HSE
      simp only at HR1 hT2 HSE
      have hTS := hT.span
      have HYES := Lib.hid (spanF_yes (f := f) hm)
      have HP2 := Lib.hid hP
      have HO2 := Lib.hid hO
      have HB2 := Lib.hid hB
      have HM2 := Lib.hid hM
      have HFK := Lib.hid hfk
      obtain ⟨lo, hlo⟩ : ∃ x, x = runeV t3.s := ⟨_, rfl⟩
      rw [← hlo] at HR1 HSE
      clear hP hO hB hM hT hsp hm hr3 hlo hfk
      go_wp2_with fail
      refine HMT.mono ?_
      rintro e w2 ⟨rfl, he⟩
      obtain rfl := he.symm
      clear HMT
      go_wp2_with fail
      refine HR1.mono ?_
      rintro e w3 ⟨rfl, hP3, hb3⟩
      have hO3 := HO2.out.but hb3 (Nat.le_refl _) hg
      have hB3 := HB2.out.trans (.of_but (hb3.mono hsz))
      have HMS := meets_sign sTo ⟨#[46, 46]⟩ rfl g src st3 (d.set o v) w3 hP3
      clear HR1 hb3
      cases hms : meetP (sgn sTo) st3 with
      | false =>
        rw [hms] at HMS
        have hse := HSE.out
        rw [hms, if_neg (by decide)] at hse
        have HSE2 := Lib.hid hse
        have bx := box_below w3 (.cells #[.string ⟨#[46, 46]⟩] 9)
        have hP4 := hP3.below bx hP3.lt
        have hO4 := hO3.below bx (Nat.le_refl _)
        have hB4 := hB3.trans (.of_but ((But.of_below bx).mono hB3.size))
        obtain ⟨w4, hw4⟩ : ∃ w4, w4 = w3.alloc (.cells #[.string ⟨#[46, 46]⟩] 9) := ⟨_, rfl⟩
        rw [← hw4] at hP4 hO4 hB4
        have HW4 := Lib.hid hw4
        obtain ⟨v', w5, hr5, hO5, hB5, hM5⟩ := span_app w4 base v (l0 ++ acc) lo lo hO4 (by have := hB4.size; omega) (by rw [List.length_append]; omega)
        obtain ⟨hc4, -⟩ := hP4.cell ho
        rw [DV.get_set] at hc4
        have hP5 : PX w5 g src st3 (d.set o v) := hP4.bu (hB5.block g hP4.lt (by have := hP4.lt; omega) (fun e => by
          have := (hO4.block e.symm).1
          omega))
        obtain ⟨-, hf5⟩ := hP5.cell ho
        have hc5 := (hP5.cell ho).1
        have hP6 := hP5.put ho v'
        rw [DV.set_set] at hP6
        have hO6 := hO5.but ((But.refl g w5.heap.size w5).setCell o v') (Nat.le_refl _) hg
        have hB6 : Bu g (d.get o).ownBlock w.heap.size w w5 := ⟨hB5.os.trans hB4.os, hB5.tape.trans hB4.tape, hB5.output.trans hB4.output, Nat.le_trans hB4.size hB5.size, fun k hk hkg hko => by
          have hk4 : k < w4.heap.size := Nat.lt_of_lt_of_le hk hB4.size
          refine (hB5.block k hk4 (by omega) (fun e => ?_)).trans (hB4.block k hk hkg hko)
          rcases HM2.out k e.symm with h1 | h1
          · exact hko h1.symm
          · omega⟩
        have hM6 : Moved (d.get o) v' w.heap.size := fun b hb => by
          rcases hM5 b hb with h1 | h1
          · exact HM2.out b h1
          · exact .inr (Nat.le_trans hB4.size h1)
        obtain ⟨gg, n, cap, hv, hn⟩ := hO5.form (by simp; omega)
        subst hv
        have HP6 := Lib.hid hP6
        have HO6 := Lib.hid hO6
        have HB6 := Lib.hid (hB6.setCell o (.slice (some ⟨gg, 0, none⟩) n cap))
        have HM6 := Lib.hid hM6
        have HTS := Lib.hid hTS
        clear hn hse hms hP3 hO3 hB3 bx hP4 hO4 hB4 hw4 hO5 hB5 hM5 hP5 hP6 hTS hO6 hB6 hM6
        go_wp2_with fail
        refine HMS.mono ?_
        rintro e w6 ⟨rfl, he⟩
        obtain rfl := he.symm
        rw [← HW4.out]
        clear HMS
        go_wp2_with (at_builtin; refine wpList_append_run rfl (.tmp 25) (.tmp 29) 24 24 rfl _ _ rfl rfl _ w5 hr5 ?_; clear hr5)
        go_roundg f
        case measure => have := HFK.out; omega
        case rel =>
          refine ⟨acc ++ [⟨(lo : Int), (lo : Int)⟩], st3, _, HP6.out, by rw [← List.append_assoc]; exact HO6.out, HB6.out, HM6.out, ?_, ?_, ?_, ?_⟩
          · have := HTS.out; rw [HSE2.out] at this; exact this
          · have := HFK.out; have h2 := hless; rw [HSE2.out] at h2; simp only at h2; omega
          · have h2 := hless; rw [HSE2.out] at h2; simp only at h2; rw [List.length_append]; simp only [List.length_cons, List.length_nil]; omega
          · rw [HSPF.out, HFK.out, HYES.out, HSE2.out]; simp
      | true =>
        rw [hms] at HMS
        have hse := HSE.out
        rw [hms, if_pos rfl] at hse
        have HSE2 := Lib.hid hse
        have bx3 := box_below w3 (.cells #[.string ⟨#[46, 46]⟩] 9)
        have hP3' := hP3.below bx3 hP3.lt
        have hO3' := hO3.below bx3 (Nat.le_refl _)
        have hB3' := hB3.trans (.of_but ((But.of_below bx3).mono hB3.size))
        obtain ⟨wx, hwx⟩ : ∃ wx, wx = w3.alloc (.cells #[.string ⟨#[46, 46]⟩] 9) := ⟨_, rfl⟩
        rw [← hwx] at hP3' hO3' hB3'
        have HWX := Lib.hid hwx
        have H4 := take_sign sTo ⟨#[46, 46]⟩ rfl g src st3 (d.set o v) wx hP3' hs
        have hT4 := (hT2.take (sgn sTo)).1
        obtain ⟨⟨t4, st4⟩, hr4⟩ : ∃ r, r = takeP (sgn sTo) st3 := ⟨_, rfl⟩
        rw [← hr4] at H4 hT4 HSE2
        simp only at hT4 HSE2
        have HO3 := Lib.hid hO3'
        have HB3 := Lib.hid hB3'
        have HT4 := Lib.hid hT4
        have HTS := Lib.hid hTS
        clear hse hms hP3 hO3 hB3 bx3 hP3' hO3' hB3' hwx hr4 hT4 hTS
        go_wp2_with fail
        refine HMS.mono ?_
        rintro e w6 ⟨rfl, he⟩
        obtain rfl := he.symm
        rw [← HWX.out]
        clear HMS
        go_wp2_with fail
        refine H4.mono ?_
        rintro e w7 ⟨rfl, hP7, hb7⟩
        have HR5 := rune_math g src st4 (d.set o v) w7 hP7 HT4.out hs
        have hO7 := HO3.out.but hb7 (Nat.le_refl _) hg
        have hB7 := HB3.out.trans (.of_but (hb7.mono HB3.out.size))
        obtain ⟨⟨t5, st5⟩, hr5⟩ : ∃ r, r = takeP (mEmpty 3) st4 := ⟨_, rfl⟩
        have hse2 := HSE2.out
        rw [← hr5] at HR5 hse2
        simp only at HR5 hse2
        obtain ⟨hi, hhi⟩ : ∃ x, x = runeV t5.s := ⟨_, rfl⟩
        rw [← hhi] at HR5 hse2
        have HSE2 := Lib.hid hse2
        clear H4 hP7 hb7 hr5 hhi hse2
        go_wp2_with fail
        refine HR5.mono ?_
        rintro e w4 ⟨rfl, hP4, hb4⟩
        have hO4 := hO7.but hb4 (Nat.le_refl _) hg
        have hB4 := hB7.trans (.of_but (hb4.mono hB7.size))
        have hTS := HTS.out
        obtain ⟨v', w5, hr5, hO5, hB5, hM5⟩ := span_app w4 base v (l0 ++ acc) lo hi hO4 (by have := hB4.size; omega) (by rw [List.length_append]; omega)
        clear HR5 hO7 hB7 hb4 HTS
        obtain ⟨hc4, -⟩ := hP4.cell ho
        rw [DV.get_set] at hc4
        have hP5 : PX w5 g src st5 (d.set o v) := hP4.bu (hB5.block g hP4.lt (by have := hP4.lt; omega) (fun e => by
          have := (hO4.block e.symm).1
          omega))
        obtain ⟨-, hf5⟩ := hP5.cell ho
        have hc5 := (hP5.cell ho).1
        have hP6 := hP5.put ho v'
        rw [DV.set_set] at hP6
        have hO6 := hO5.but ((But.refl g w5.heap.size w5).setCell o v') (Nat.le_refl _) hg
        have hB6 : Bu g (d.get o).ownBlock w.heap.size w w5 := ⟨hB5.os.trans hB4.os, hB5.tape.trans hB4.tape, hB5.output.trans hB4.output, Nat.le_trans hB4.size hB5.size, fun k hk hkg hko => by
          have hk4 : k < w4.heap.size := Nat.lt_of_lt_of_le hk hB4.size
          refine (hB5.block k hk4 (by omega) (fun e => ?_)).trans (hB4.block k hk hkg hko)
          rcases HM2.out k e.symm with h1 | h1
          · exact hko h1.symm
          · omega⟩
        have hM6 : Moved (d.get o) v' w.heap.size := fun b hb => by
          rcases hM5 b hb with h1 | h1
          · exact HM2.out b h1
          · exact .inr (Nat.le_trans hB4.size h1)
        obtain ⟨gg, n, cap, hv, hn⟩ := hO5.form (by simp; omega)
        subst hv
        have HP6 := Lib.hid hP6
        have HO6 := Lib.hid hO6
        have HB6 := Lib.hid (hB6.setCell o (.slice (some ⟨gg, 0, none⟩) n cap))
        have HM6 := Lib.hid hM6
        have HTS := Lib.hid hTS
        clear hn hP4 hO4 hB4 hO5 hB5 hM5 hP5 hP6 hTS hO6 hB6 hM6
        go_wp2_with (at_builtin; refine wpList_append_run rfl (.tmp 25) (.tmp 29) 24 24 rfl _ _ rfl rfl _ w5 hr5 ?_; clear hr5)
        go_roundg f
        case measure => have := HFK.out; omega
        case rel =>
          refine ⟨acc ++ [⟨(lo : Int), (hi : Int)⟩], st5, _, HP6.out, by rw [← List.append_assoc]; exact HO6.out, HB6.out, HM6.out, ?_, ?_, ?_, ?_⟩
          · have := HTS.out; rw [HSE2.out] at this; exact this
          · have := HFK.out; have h2 := hless; rw [HSE2.out] at h2; simp only at h2; omega
          · have h2 := hless; rw [HSE2.out] at h2; simp only at h2; rw [List.length_append]; simp only [List.length_cons, List.length_nil]; omega
          · rw [HSPF.out, HFK.out, HYES.out, HSE2.out]; simp
end Go.Proofs.YtonbfcpbgkpbaaaGreatDoor
end
section
/- A region that draws its order, whose operations may call, make memory and hand on values that no one knows beforehand: each operation keeps all that stands (Below); of each a fact about its slots is said ahead (a row), which stays true. The last operations may come one behind the other (they may write). -/
namespace Go.Proofs.YtonbfcpbgkpbaaaGreatDoor
open Go.RowKit
def mUpon (P : Program) (K : Value → World → Prop) : Result Next → Prop
  | .ok (.value u) w' => K u w'
  | .ok .skip w' => K undef w'
  | .ok (.enter f args) w' => Calls P f args w' fun e w'' => ∃ v, e = .returned v ∧ K v w''
  | _ => False
theorem mUpon_value (P : Program) (K : Value → World → Prop) (u : Value) (w : World) : mUpon P K (.ok (.value u) w) = K u w := rfl
theorem mUpon_skip (P : Program) (K : Value → World → Prop) (w : World) : mUpon P K (.ok .skip w) = K undef w := rfl
theorem mUpon_enter (P : Program) (K : Value → World → Prop) (f : FuncId) (args : Array Value) (w : World) : mUpon P K (.ok (.enter f args) w) = Calls P f args w fun e w'' => ∃ v, e = .returned v ∧ K v w'' := rfl
def depsOf (md : Region.Mode) (o : Oper) : List Nat := (o.after.toList.filter (Region.binds md)).map (·.on)
/-- One operation, by itself: φ holds of what it answers. -/
def mStep (P : Program) (ops : Array Oper) (φ : Value → World → Prop) (o : Oper) (a : Act) (w : World) : Prop :=
  if Region.wanted o (yielded ops a.tmps) then mUpon P (fun v w' => Below w.heap.size w w' ∧ φ v w') ((execOp a.eval o).run P w) else φ undef w
/-- The frame, its slots filled one by one, and what holds of them. -/
def finV : List Nat → List (Value → World → Prop) → Act → World → (Act → Prop) → Prop
  | d :: ds, φ :: T, a, w, p => ∀ u, φ u w → finV ds T (a.put (some d) u) w p
  | _, _, a, _, p => p a
structure FrameEq (ds : List Nat) (a0 a : Act) : Prop where
  defers : a.defers = a0.defers
  size : a.tmps.size = a0.tmps.size
  slot : ∀ k, k ∉ ds → a.tmps[k]? = a0.tmps[k]?
theorem FrameEq.refl (ds : List Nat) (a : Act) : FrameEq ds a a := ⟨rfl, rfl, fun _ _ => rfl⟩
theorem FrameEq.put {ds : List Nat} {a0 a : Act} (h : FrameEq ds a0 a) {d : Option Nat} (hd : ∀ k, d = some k → k ∈ ds) (v : Value) : FrameEq ds a0 (a.put d v) := by
  cases d with
  | none => exact h
  | some d =>
    refine ⟨h.defers, by simpa [Act.put] using h.size, fun k hk => ?_⟩
    have hne : d ≠ k := fun e => hk (e ▸ hd d rfl)
    simp only [Act.put]
    rw [Array.getElem?_setIfInBounds_ne hne]
    exact h.slot k hk
theorem FrameEq.get {ds : List Nat} {a0 a : Act} (h : FrameEq ds a0 a) {k : Nat} (hk : ds.contains k = false) : a.eval (.tmp k) = a0.eval (.tmp k) := by
  have := h.slot k (by simpa using hk)
  simp only [Act.eval, Array.getD_eq_getD_getElem?, this]
theorem finV_of : ∀ (ds : List Nat) (T : List (Value → World → Prop)) {a0 a : Act} {w : World} {p : Act → Prop}, ds.length = T.length → finV ds T a0 w p → FrameEq ds a0 a → (∀ (i : Nat) φ d, T[i]? = some φ → ds[i]? = some d → φ (a.eval (.tmp d)) w) → p a
  | [], [], a0, a, w, p, _, h, he, _ => by
    have : a = a0 := by
      obtain ⟨t, d⟩ := a
      obtain ⟨t0, d0⟩ := a0
      obtain ⟨h1, h2, h3⟩ := he
      simp only at h1 h2 h3
      subst h1
      have : t = t0 := Array.ext_getElem? fun k => h3 k (by simp)
      rw [this]
    rw [this]; exact h
  | [], _ :: _, _, _, _, _, hl, _, _, _ => by simp at hl
  | _ :: _, [], _, _, _, _, hl, _, _, _ => by simp at hl
  | d :: ds, φ :: T, a0, a, w, p, hl, h, he, hr => by
    refine finV_of ds T (a0 := a0.put (some d) (a.eval (.tmp d))) (by simpa using hl) (h _ (hr 0 φ d (by simp) (by simp))) ⟨he.defers, by simpa [Act.put] using he.size, fun k hk => ?_⟩ (fun i φ' d' h1 h2 => hr (i + 1) φ' d' (by simpa using h1) (by simpa using h2))
    simp only [Act.put]
    by_cases hkd : d = k
    · subst hkd
      rw [Array.getElem?_setIfInBounds]
      simp only [if_true]
      by_cases hlt : d < a0.tmps.size
      · rw [if_pos hlt]
        have hlt' : d < a.tmps.size := by rw [he.size]; exact hlt
        simp [hlt', Act.eval]
      · rw [if_neg hlt]
        exact Array.getElem?_eq_none (by rw [he.size]; omega)
    · rw [Array.getElem?_setIfInBounds_ne hkd]
      exact he.slot k (by simp only [List.mem_cons, not_or]; exact ⟨fun e => hkd e.symm, hk⟩)
section
variable {P : Program} {ops : Array Oper} {md : Region.Mode}
def rowAt (T : List (Value → World → Prop)) (ds : List Nat) (i : Nat) (a : Act) (w : World) : Prop := ∀ φ d, T[i]? = some φ → ds[i]? = some d → φ (a.eval (.tmp d)) w
def stepsM (P : Program) (md : Region.Mode) (ops : Array Oper) (T : List (Value → World → Prop)) (ds : List Nat) (a0 : Act) (W : World) : List (Value → World → Prop) → List Oper → Prop
  | φ :: rs, o :: os => (∀ a, FrameEq ds a0 a → ∀ w, Below W.heap.size W w → (∀ j, (depsOf md o).contains j = true → rowAt T ds j a w) → mStep P ops φ o a w) ∧ stepsM P md ops T ds a0 W rs os
  | _, _ => True
theorem stepsM_get {T : List (Value → World → Prop)} {ds : List Nat} {a0 : Act} {W : World} : ∀ {rs : List (Value → World → Prop)} {os : List Oper}, stepsM P md ops T ds a0 W rs os → ∀ (i : Nat) φ o, rs[i]? = some φ → os[i]? = some o →
    (∀ a, FrameEq ds a0 a → ∀ w, Below W.heap.size W w → (∀ j, (depsOf md o).contains j = true → rowAt T ds j a w) → mStep P ops φ o a w)
  | [], _, _, i, r, o, hr, _ => by simp at hr
  | _ :: _, [], _, i, r, o, _, ho => by simp at ho
  | _ :: rs, _ :: os, h, 0, r, o, hr, ho => by
    simp only [List.getElem?_cons_zero, Option.some.injEq] at hr ho
    subst hr; subst ho
    exact h.1
  | _ :: rs, _ :: os, h, i + 1, r, o, hr, ho => stepsM_get h.2 i r o (by simpa using hr) (by simpa using ho)
def nodupB : List Nat → Bool
  | [] => true
  | d :: ds => !ds.contains d && nodupB ds
theorem nodupB_spec : ∀ {ds : List Nat}, nodupB ds = true → ∀ (i j d : Nat), ds[i]? = some d → ds[j]? = some d → i = j
  | [], _, i, _, d, h, _ => by simp at h
  | x :: ds, hB, i, j, d, hi, hj => by
    simp only [nodupB, Bool.and_eq_true, Bool.not_eq_true', List.contains_eq_mem, decide_eq_false_iff_not] at hB
    cases i with
    | zero =>
      cases j with
      | zero => rfl
      | succ j =>
        simp only [List.getElem?_cons_zero, Option.some.injEq] at hi
        subst hi
        exact absurd (List.mem_of_getElem? (by simpa using hj)) hB.1
    | succ i =>
      cases j with
      | zero =>
        simp only [List.getElem?_cons_zero, Option.some.injEq] at hj
        subst hj
        exact absurd (List.mem_of_getElem? (by simpa using hi)) hB.1
      | succ j => rw [nodupB_spec hB.2 i j d (by simpa using hi) (by simpa using hj)]
/-- What lies behind the head waits for it. -/
def tailB (md : Region.Mode) (ops : Array Oper) (n k : Nat) : Bool :=
  (List.range ops.size).all fun t => decide (t < k) || ((List.range n).all fun i => Region.waitsFor md ops t i) || (List.range t).any fun j => decide (k ≤ j) && Region.waitsFor md ops t j
/-- What is asked of the region's text. -/
def monoB (md : Region.Mode) (ops : Array Oper) (n k : Nat) (ds : List Nat) : Bool :=
  decide (ds.length = n) && decide (n ≤ k) && decide (k ≤ ops.size) && tailB md ops n k &&
  Region.seqB md ops (ops.size - k) k (Array.replicate k true ++ Array.replicate (ops.size - k) false) && nodupB ds &&
  ((List.range n).all fun i => match ops[i]? with
    | some o => (depsOf md o).all (fun j => decide (j < i)) && decide (o.dst = ds[i]?)
    | none => false)
def cntU : Nat → Array Bool → Nat
  | 0, _ => 0
  | n + 1, l => cntU n l + if l.getD n false = true then 0 else 1
theorem cntU_replicate (n m : Nat) : cntU n (Array.replicate m false) = n := by
  induction n with
  | zero => rfl
  | succ n ih => simp only [cntU]; rw [ih, getD_replicate_false]; simp
theorem cntU_above (n i : Nat) (l : Array Bool) (h : n ≤ i) : cntU n (l.setIfInBounds i true) = cntU n l := by
  induction n with
  | zero => rfl
  | succ n ih => simp only [cntU]; rw [ih (by omega), getD_set_ne false (by omega)]
theorem cntU_set (n i : Nat) (l : Array Bool) (hi : i < n) (hs : i < l.size) (hu : l.getD i false = false) : cntU n (l.setIfInBounds i true) + 1 = cntU n l := by
  induction n with
  | zero => omega
  | succ n ih =>
    simp only [cntU]
    by_cases h : i = n
    · subst h
      rw [cntU_above _ _ _ (Nat.le_refl _), hu]
      have : (l.setIfInBounds i true).getD i false = true := by simp [hs]
      rw [this]
      simp
    · rw [getD_set_ne false h]
      have := ih (by omega)
      omega
theorem cntU_zero (n : Nat) (l : Array Bool) (h : cntU n l = 0) : ∀ i, i < n → l.getD i false = true := by
  induction n with
  | zero => intro i hi; omega
  | succ n ih =>
    intro i hi
    simp only [cntU] at h
    by_cases hin : i = n
    · subst hin
      by_cases hc : l.getD i false = true
      · exact hc
      · rw [if_neg hc] at h; omega
    · exact ih (by omega) i (by omega)
theorem cntU_pos (n : Nat) (l : Array Bool) (h : cntU n l ≠ 0) : ∃ i, i < n ∧ l.getD i false = false ∧ ∀ j, j < i → l.getD j false = true := by
  induction n with
  | zero => exact absurd rfl h
  | succ n ih =>
    by_cases h0 : cntU n l = 0
    · simp only [cntU] at h
      refine ⟨n, by omega, ?_, cntU_zero n l h0⟩
      cases hc : l.getD n false with
      | false => rfl
      | true => rw [if_pos hc] at h; omega
    · obtain ⟨i, h1, h2, h3⟩ := ih h0
      exact ⟨i, by omega, h2, h3⟩
theorem mem_depsOf {o : Oper} {e : Edge} (he : e ∈ o.after) (hb : Region.binds md e = true) : e.on ∈ depsOf md o := by
  unfold depsOf
  rw [List.mem_map]
  exact ⟨e, List.mem_filter.2 ⟨by simpa using he, hb⟩, rfl⟩
structure MInv (md : Region.Mode) (ops : Array Oper) (n k : Nat) (T : List (Value → World → Prop)) (ds : List Nat) (a0 : Act) (W : World) (listed : Array Bool) (a : Act) (w : World) : Prop where
  size : listed.size = ops.size
  pre : ∀ t, n ≤ t → t < k → listed.getD t false = true
  tail : ∀ t, k ≤ t → t < ops.size → listed.getD t true = false
  bel : Below W.heap.size W w
  frame : FrameEq ds a0 a
  rows : ∀ (i : Nat), i < n → listed.getD i false = true → rowAt T ds i a w
theorem wpAny_mono {n k : Nat} {T : List (Value → World → Prop)} {ds : List Nat} {a0 : Act} {W : World} {l : List Oper} {Q : Exit → Act → World → Prop} (hl : l.toArray = ops) (hT : T.length = n) (hB : monoB md ops n k ds = true)
    (hin0 : ∀ d ∈ ds, d < a0.tmps.size) (hst : ∀ φ ∈ T, ∀ v w w', Below w.heap.size w w' → φ v w → φ v w') (hs : stepsM P md ops T ds a0 W T l)
    (hf : ∀ a, FrameEq ds a0 a → ∀ w, Below W.heap.size W w → (∀ (i : Nat), rowAt T ds i a w) → wpList P ops Q (l.drop k) a w) :
    ∀ (m : Nat) (listed : Array Bool) (a : Act) (w : World), cntU n listed = m → MInv md ops n k T ds a0 W listed a w → wpAny P md ops Q (m + (ops.size - k)) listed a w := by
  unfold monoB at hB
  simp only [Bool.and_eq_true, decide_eq_true_eq] at hB
  obtain ⟨⟨⟨⟨⟨⟨hlen, hnk⟩, hk⟩, htail⟩, hseq⟩, hnd⟩, hops⟩ := hB
  have hn : n ≤ ops.size := Nat.le_trans hnk hk
  have hlsz : l.length = ops.size := by rw [← hl]; simp
  intro m
  induction m with
  | zero =>
    intro listed a w hc inv
    have hall := cntU_zero n listed hc
    have hli : listed = Array.replicate k true ++ Array.replicate (ops.size - k) false := by
      refine Array.ext (by rw [inv.size]; simp; omega) fun i h1 h2 => ?_
      have hi : i < ops.size := by rw [← inv.size]; exact h1
      by_cases hik : i < k
      · have : listed.getD i false = true := by
          by_cases hin : i < n
          · exact hall i hin
          · exact inv.pre i (by omega) hik
        rw [Array.getElem_append_left (by simpa using hik)]
        simp [h1] at this
        simp [this]
      · have := inv.tail i (by omega) hi
        rw [Array.getElem_append_right (by simp; omega)]
        simp [h1] at this
        simp [this]
    rw [Nat.zero_add]
    have := wpAny_of_seq (P := P) (md := md) (ops := ops) (Q' := Q) (l.drop k) k listed a w (fun j => by rw [← hl]; simp) (by
      rw [List.length_drop, hlsz, hli]; exact hseq) (hf a inv.frame w inv.bel fun i φ d hr hd => by
        have hin : i < n := by
          have := (List.getElem?_eq_some_iff.1 hr).1
          omega
        exact inv.rows i hin (hall i hin) φ d hr hd)
    rwa [List.length_drop, hlsz] at this
  | succ m ih =>
    intro listed a w hc inv
    rw [show m + 1 + (ops.size - k) = (m + (ops.size - k)) + 1 by omega]
    refine ⟨fun h0 => ?_, fun i hi => ?_⟩
    · exfalso
      obtain ⟨i, h1, h2, h3⟩ := cntU_pos n listed (by omega)
      have hio := List.all_eq_true.1 hops i (List.mem_range.2 h1)
      obtain ⟨o, ho⟩ : ∃ o, ops[i]? = some o := ⟨_, Array.getElem?_eq_getElem (by omega)⟩
      rw [ho] at hio
      simp only [Bool.and_eq_true] at hio
      have : i ∈ Region.ready md ops listed := mem_ready.2 ⟨getD_in (by rw [inv.size]; omega) h2, o, ho, fun e he hb => h3 _ (by
        have := List.all_eq_true.1 hio.1 e.on (mem_depsOf he hb)
        simpa using this)⟩
      rw [h0] at this
      cases this
    · obtain ⟨hun, o, ho, hdep⟩ := mem_ready.1 hi
      have hunf := getD_both hun
      have hisz := (Array.getElem?_eq_some_iff.1 ho).1
      have hik : i < n ∨ k ≤ i := by
        rcases Nat.lt_or_ge i n with h | h
        · exact .inl h
        · rcases Nat.lt_or_ge i k with h' | h'
          · have := inv.pre i h h'
            rw [hunf] at this; cases this
          · exact .inr h'
      have hin : i < n := by
        rcases hik with h | h
        · exact h
        · exfalso
          obtain ⟨q, h1, h2, h3⟩ := cntU_pos n listed (by omega)
          have ht := List.all_eq_true.1 htail i (List.mem_range.2 hisz)
          simp only [Bool.or_eq_true, decide_eq_true_eq] at ht
          rcases ht with (ht | ht) | ht
          · omega
          · obtain ⟨oj, hoj, e, he, hb, hon⟩ := Region.waitsFor_spec (List.all_eq_true.1 ht q (List.mem_range.2 h1))
            obtain rfl : oj = o := Option.some.inj (hoj.symm.trans ho)
            have := hdep e he hb
            rw [hon, h2] at this
            cases this
          · obtain ⟨j, hj, hj2⟩ := List.any_eq_true.1 ht
            simp only [Bool.and_eq_true, decide_eq_true_eq] at hj2
            obtain ⟨oj, hoj, e, he, hb, hon⟩ := Region.waitsFor_spec hj2.2
            obtain rfl : oj = o := Option.some.inj (hoj.symm.trans ho)
            have := hdep e he hb
            have hjl := List.mem_range.1 hj
            rw [hon, getD_both (inv.tail j hj2.1 (by omega))] at this
            cases this
      obtain ⟨φ, hr⟩ : ∃ φ, T[i]? = some φ := ⟨_, List.getElem?_eq_getElem (by omega)⟩
      obtain ⟨d, hd⟩ : ∃ d, ds[i]? = some d := ⟨_, List.getElem?_eq_getElem (by omega)⟩
      have hio := List.all_eq_true.1 hops i (List.mem_range.2 hin)
      rw [ho] at hio
      simp only [Bool.and_eq_true, decide_eq_true_eq] at hio
      have hod : o.dst = some d := hio.2.trans hd
      have hlo : l[i]? = some o := by rw [← ho, ← hl]; simp
      have hstep := stepsM_get hs i φ o hr hlo a inv.frame w inv.bel (fun j hj => by
        have hji : j < i := by
          have := List.all_eq_true.1 hio.1 j (by simpa using hj)
          simpa using this
        refine inv.rows j (by omega) ?_
        unfold depsOf at hj
        simp only [List.contains_iff_mem, List.mem_map, List.mem_filter] at hj
        obtain ⟨e, ⟨he, hb⟩, rfl⟩ := hj
        exact hdep e (by simpa using he) hb)
      have hdm : d ∈ ds := List.mem_of_getElem? hd
      have hsz : d < a.tmps.size := by rw [inv.frame.size]; exact hin0 d hdm
      have hnext : ∀ v w', Below w.heap.size w w' → φ v w' → MInv md ops n k T ds a0 W (listed.setIfInBounds i true) (a.put o.dst v) w' := fun v w' hb hrv => by
        rw [hod]
        refine ⟨by simp [inv.size], fun t h1 h2 => getD_set_true (inv.pre t h1 h2), fun t h1 h2 => by rw [getD_set_ne true (by omega)]; exact inv.tail t h1 h2, inv.bel.trans (hb.mono inv.bel.size), inv.frame.put (fun k hk => (Option.some.inj hk) ▸ hdm) v, fun j hjn hjl ψ d' hr' hd' => ?_⟩
        by_cases hji : j = i
        · subst hji
          obtain rfl : ψ = φ := Option.some.inj (hr'.symm.trans hr)
          obtain rfl : d' = d := Option.some.inj (hd'.symm.trans hd)
          have : (a.put (some d') v).eval (.tmp d') = v := by simp [Act.eval, Act.put, hsz]
          rw [this]
          exact hrv
        · rw [getD_set_ne false (fun e => hji e.symm)] at hjl
          have h0 := inv.rows j hjn hjl ψ d' hr' hd'
          have h1 := hst ψ (List.mem_of_getElem? hr') _ w w' hb h0
          rw [Act.eval_put fun k hk e => ?_]
          · exact h1
          · cases e
            obtain rfl := Option.some.inj hk
            exact hji (nodupB_spec hnd j i _ hd' hd)
      have hcs : cntU n (listed.setIfInBounds i true) = m := by
        have := cntU_set n i listed hin (by rw [inv.size]; omega) hunf
        omega
      unfold wpOp
      simp only [ho]
      unfold mStep at hstep
      by_cases hw : Region.wanted o (yielded ops a.tmps) = true
      · rw [if_pos hw] at hstep ⊢
        refine .inl ?_
        unfold Oper.wp
        generalize (execOp a.eval o).run P w = res at *
        cases res with
        | ok nx w' =>
          cases nx <;> simp only [mUpon] at hstep <;> simp only [Oper.upon]
          case value u => exact ih _ _ _ hcs (hnext u w' hstep.1 hstep.2)
          case skip => exact ih _ _ _ hcs (hnext undef w' hstep.1 hstep.2)
          case enter f args =>
            refine hstep.mono ?_
            rintro e w'' ⟨v, rfl, h1, h2⟩
            exact ih _ _ _ hcs (hnext v w'' h1 h2)
        | halt x w' => simp only [mUpon] at hstep
      · rw [if_neg hw] at hstep ⊢
        exact ih _ _ _ hcs (hnext undef w (Below.refl _ _) hstep)
theorem mStep_val {φ : Value → World → Prop} {o : Oper} {a : Act} {w w' : World} {v : Value} (hg : o.guard = none) (hrun : (execOp a.eval o).run P w = .ok (.value v) w') (hb : Below w.heap.size w w') (h : φ v w') : mStep P ops φ o a w := by
  unfold mStep
  rw [if_pos (by simp [Region.wanted, hg]), hrun]
  exact ⟨hb, h⟩
theorem mStep_read {φ : Value → World → Prop} {o : Oper} {a : Act} {w : World} {v : Value} (hg : o.guard = none) (hrun : (execOp a.eval o).run P w = .ok (.value v) w) (h : φ v w) : mStep P ops φ o a w := mStep_val hg hrun (Below.refl _ _) h
theorem mStep_call {φ : Value → World → Prop} {o : Oper} {a : Act} {w : World} {f : FuncId} {args : Array Value} (hg : o.guard = none) (hrun : (execOp a.eval o).run P w = .ok (.enter f args) w) (hc : Calls P f args w fun e w' => ∃ v, e = .returned v ∧ Below w.heap.size w w' ∧ φ v w') : mStep P ops φ o a w := by
  unfold mStep
  rw [if_pos (by simp [Region.wanted, hg]), hrun]
  exact hc
theorem getD_some {t : Array Value} {d : Nat} {b : Bool} (h : t.getD d undef = .bool b) : t[d]? = some (.bool b) := by
  rw [Array.getD_eq_getD_getElem?] at h
  cases hq : t[d]? with
  | none => rw [hq] at h; simp [undef] at h
  | some v => rw [hq] at h; simp at h; rw [h]
/-- Behind a guard that lets it by. -/
theorem mStep_on {φ : Value → World → Prop} {o og : Oper} {a : Act} {w : World} {g d : Nat} {b : Bool} (hg : o.guard = some (g, b)) (ho : ops[g]? = some og) (hd : og.dst = some d) (hv : a.eval (.tmp d) = .bool b) (h : mUpon P (fun v w' => Below w.heap.size w w' ∧ φ v w') ((execOp a.eval o).run P w)) : mStep P ops φ o a w := by
  have hv' := getD_some hv
  unfold mStep
  rw [if_pos (by simp [Region.wanted, hg, yielded, ho, hd, hv'])]
  exact h
theorem mStep_off {φ : Value → World → Prop} {o og : Oper} {a : Act} {w : World} {g d : Nat} {b c : Bool} (hg : o.guard = some (g, b)) (ho : ops[g]? = some og) (hd : og.dst = some d) (hv : a.eval (.tmp d) = .bool c) (hbc : c ≠ b) (h : φ undef w) : mStep P ops φ o a w := by
  have hv' := getD_some hv
  unfold mStep
  rw [if_neg (by simp [Region.wanted, hg, yielded, ho, hd, hv', hbc])]
  exact h
theorem mStep_val_on {φ : Value → World → Prop} {o og : Oper} {a : Act} {w w' : World} {g d : Nat} {b : Bool} {v : Value} (hg : o.guard = some (g, b)) (ho : ops[g]? = some og) (hd : og.dst = some d) (hv : a.eval (.tmp d) = .bool b) (hrun : (execOp a.eval o).run P w = .ok (.value v) w') (hb : Below w.heap.size w w') (h : φ v w') : mStep P ops φ o a w :=
  mStep_on hg ho hd hv (by rw [hrun]; exact ⟨hb, h⟩)
theorem mStep_read_on {φ : Value → World → Prop} {o og : Oper} {a : Act} {w : World} {g d : Nat} {b : Bool} {v : Value} (hg : o.guard = some (g, b)) (ho : ops[g]? = some og) (hd : og.dst = some d) (hv : a.eval (.tmp d) = .bool b) (hrun : (execOp a.eval o).run P w = .ok (.value v) w) (h : φ v w) : mStep P ops φ o a w :=
  mStep_val_on hg ho hd hv hrun (Below.refl _ _) h
theorem mStep_call_on {φ : Value → World → Prop} {o og : Oper} {a : Act} {w : World} {g d : Nat} {b : Bool} {f : FuncId} {args : Array Value} (hg : o.guard = some (g, b)) (ho : ops[g]? = some og) (hd : og.dst = some d) (hv : a.eval (.tmp d) = .bool b) (hrun : (execOp a.eval o).run P w = .ok (.enter f args) w) (hc : Calls P f args w fun e w' => ∃ v, e = .returned v ∧ Below w.heap.size w w' ∧ φ v w') : mStep P ops φ o a w :=
  mStep_on hg ho hd hv (by rw [hrun]; exact hc)
/-- A row whose value is known. -/
def qR (v : Value) : Value → World → Prop := fun u _ => u = v
/-- THE LAW. -/
theorem wp_region_mono {id : Nat} {Q : Exit → Act → World → Prop} {a0 : Act} {w : World} {l : List Oper} (n : Nat) (ds : List Nat) (T : List (Value → World → Prop)) (hm : P.follows .mixedOrders = true) (hB : monoB .any l.toArray n n ds = true) (hT : T.length = n)
    (hin0 : (ds.all fun d => decide (d < a0.tmps.size)) = true) (hst : ∀ φ ∈ T, ∀ v w w', Below w.heap.size w w' → φ v w → φ v w') (hs : stepsM P .any l.toArray T ds a0 w.drew T l)
    (hf : ∀ w', Below w.heap.size w.drew w' → finV ds T a0 w' fun a => wpList P l.toArray Q (l.drop n) a w') : (Code.region id l.toArray true).wp P Q a0 w := by
  refine wp_region_any hm ?_
  have hn : n ≤ l.toArray.size ∧ ds.length = n := by
    unfold monoB at hB
    simp only [Bool.and_eq_true, decide_eq_true_eq] at hB
    exact ⟨hB.1.1.1.1.2, hB.1.1.1.1.1.1⟩
  have := wpAny_mono (P := P) (md := .any) (Q := Q) (a0 := a0) (W := w.drew) rfl hT hB (fun d hd => by simpa using List.all_eq_true.1 hin0 d hd) hst hs (fun a he w' hb hr => finV_of ds T (by rw [hT]; exact hn.2) (hf w' hb) he fun i φ d h1 h2 => hr i φ d h1 h2) n (Array.replicate l.toArray.size false) a0 w.drew (cntU_replicate _ _)
    ⟨by simp, fun t h1 h2 => by omega, fun t _ ht => getD_in (by simpa using ht) (getD_replicate_false _ _), Below.refl _ _, FrameEq.refl _ _, fun i _ h => (by rw [getD_replicate_false] at h; cases h)⟩
  rw [show n + (l.toArray.size - n) = l.toArray.size by omega] at this
  exact this
/-- THE LAW, where the operation behind the head but moves a slot's value on: nothing of the tail need wait for it. -/
theorem wp_region_mono_move {id : Nat} {Q : Exit → Act → World → Prop} {a0 : Act} {w : World} {l : List Oper} (n : Nat) (ds : List Nat) (T : List (Value → World → Prop)) {o : Oper} {x : Operand} (ho : l[n]? = some o) (hop : o.op = .move x) (hg : o.guard = none) (hm : P.follows .mixedOrders = true) (hB : monoB .any l.toArray n (n + 1) ds = true) (hT : T.length = n)
    (hsel : Region.noSelect l.toArray = true) (hfr : Region.free .any l.toArray (Array.replicate l.toArray.size false) n = true) (hrd : (Region.ready .any l.toArray (Array.replicate l.toArray.size false)).contains n = true)
    (hQ : ∀ c (a' : Act) w v, Q (.panic c) (a'.put o.dst v) w → Q (.panic c) a' w)
    (hin0 : (ds.all fun d => decide (d < a0.tmps.size)) = true) (hst : ∀ φ ∈ T, ∀ v w w', Below w.heap.size w w' → φ v w → φ v w') (hs : stepsM P .any l.toArray T ds (a0.put o.dst (a0.eval x)) w.drew T l)
    (hf : ∀ w', Below w.heap.size w.drew w' → finV ds T (a0.put o.dst (a0.eval x)) w' fun a => wpList P l.toArray Q (l.drop (n + 1)) a w') : (Code.region id l.toArray true).wp P Q a0 w := by
  refine wp_region_any hm ?_
  have hn : n + 1 ≤ l.toArray.size ∧ ds.length = n := by
    unfold monoB at hB
    simp only [Bool.and_eq_true, decide_eq_true_eq] at hB
    exact ⟨hB.1.1.1.1.2, hB.1.1.1.1.1.1⟩
  have hsz : ∀ v, (a0.put o.dst v).tmps.size = a0.tmps.size := fun v => by cases o.dst <;> simp [Act.put]
  have h := wpAny_mono (P := P) (md := .any) (Q := Q) (a0 := a0.put o.dst (a0.eval x)) (W := w.drew) (k := n + 1) rfl hT hB (fun d hd => by rw [hsz]; simpa using List.all_eq_true.1 hin0 d hd) hst hs (fun a he w' hb hr => finV_of ds T (by rw [hT]; exact hn.2) (hf w' hb) he fun i φ d h1 h2 => hr i φ d h1 h2) n ((Array.replicate l.toArray.size false).setIfInBounds n true) (a0.put o.dst (a0.eval x)) w.drew (by rw [cntU_above _ _ _ (Nat.le_refl _), cntU_replicate])
    ⟨by simp, fun t h1 h2 => (by
      obtain rfl : t = n := by omega
      simp at hn
      simp
      omega), fun t h1 h2 => (by rw [getD_set_ne true (by omega)]; exact getD_in (by simpa using h2) (getD_replicate_false _ _)), Below.refl _ _, FrameEq.refl _ _, fun i hi h => (by rw [getD_set_ne false (by omega), getD_replicate_false] at h; cases h)⟩
  have h3 := wpAny_take (md := .any) (i := n) (oi := o) (v := a0.eval x) (by simpa using ho) hsel hfr hrd (fun c a' w' hq => hQ c a' w' _ hq) (by
    refine .inl ⟨by simp [Region.wanted, hg], fun w' => ?_⟩
    simp [execOp, hop, Sem.run_pure]) h
  rw [show n + (l.toArray.size - (n + 1)) + 1 = l.toArray.size by omega] at h3
  exact h3
end
end Go.Proofs.YtonbfcpbgkpbaaaGreatDoor
end
section
/- RMono's law once more, for a tail that waits for the head through the head itself. -/
namespace Go.Proofs.YtonbfcpbgkpbaaaGreatDoor
open Go.RowKit
section
variable {P : Program} {ops : Array Oper} {md : Region.Mode}
/-- What lies behind the head waits for it: itself, or through what it waits for. -/
def tailB2 (md : Region.Mode) (ops : Array Oper) (n k : Nat) : Bool :=
  (List.range ops.size).all fun t => decide (t < k) || ((List.range n).all fun i => Region.waitsFor md ops t i || (List.range n).any fun j => decide (i < j) && Region.waitsFor md ops j i) || (List.range t).any fun j => decide (k ≤ j) && Region.waitsFor md ops t j
def monoB2 (md : Region.Mode) (ops : Array Oper) (n k : Nat) (ds : List Nat) : Bool :=
  decide (ds.length = n) && decide (n ≤ k) && decide (k ≤ ops.size) && tailB2 md ops n k &&
  Region.seqB md ops (ops.size - k) k (Array.replicate k true ++ Array.replicate (ops.size - k) false) && nodupB ds &&
  ((List.range n).all fun i => match ops[i]? with
    | some o => (depsOf md o).all (fun j => decide (j < i)) && decide (o.dst = ds[i]?)
    | none => false)
structure MInv2 (md : Region.Mode) (ops : Array Oper) (n k : Nat) (T : List (Value → World → Prop)) (ds : List Nat) (a0 : Act) (W : World) (listed : Array Bool) (a : Act) (w : World) : Prop where
  size : listed.size = ops.size
  pre : ∀ t, n ≤ t → t < k → listed.getD t false = true
  tail : ∀ t, k ≤ t → t < ops.size → listed.getD t true = false
  bel : Below W.heap.size W w
  frame : FrameEq ds a0 a
  rows : ∀ (i : Nat), i < n → listed.getD i false = true → rowAt T ds i a w
  closed : ∀ (i : Nat) (o : Oper), i < n → listed.getD i false = true → ops[i]? = some o → ∀ e ∈ o.after, Region.binds md e = true → listed.getD e.on false = true
theorem wpAny_mono2 {n k : Nat} {T : List (Value → World → Prop)} {ds : List Nat} {a0 : Act} {W : World} {l : List Oper} {Q : Exit → Act → World → Prop} (hl : l.toArray = ops) (hT : T.length = n) (hB : monoB2 md ops n k ds = true)
    (hin0 : ∀ d ∈ ds, d < a0.tmps.size) (hst : ∀ φ ∈ T, ∀ v w w', Below w.heap.size w w' → φ v w → φ v w') (hs : stepsM P md ops T ds a0 W T l)
    (hf : ∀ a, FrameEq ds a0 a → ∀ w, Below W.heap.size W w → (∀ (i : Nat), rowAt T ds i a w) → wpList P ops Q (l.drop k) a w) :
    ∀ (m : Nat) (listed : Array Bool) (a : Act) (w : World), cntU n listed = m → MInv2 md ops n k T ds a0 W listed a w → wpAny P md ops Q (m + (ops.size - k)) listed a w := by
  unfold monoB2 at hB
  simp only [Bool.and_eq_true, decide_eq_true_eq] at hB
  obtain ⟨⟨⟨⟨⟨⟨hlen, hnk⟩, hk⟩, htail⟩, hseq⟩, hnd⟩, hops⟩ := hB
  have hn : n ≤ ops.size := Nat.le_trans hnk hk
  have hlsz : l.length = ops.size := by rw [← hl]; simp
  intro m
  induction m with
  | zero =>
    intro listed a w hc inv
    have hall := cntU_zero n listed hc
    have hli : listed = Array.replicate k true ++ Array.replicate (ops.size - k) false := by
      refine Array.ext (by rw [inv.size]; simp; omega) fun i h1 h2 => ?_
      have hi : i < ops.size := by rw [← inv.size]; exact h1
      by_cases hik : i < k
      · have : listed.getD i false = true := by
          by_cases hin : i < n
          · exact hall i hin
          · exact inv.pre i (by omega) hik
        rw [Array.getElem_append_left (by simpa using hik)]
        simp [h1] at this
        simp [this]
      · have := inv.tail i (by omega) hi
        rw [Array.getElem_append_right (by simp; omega)]
        simp [h1] at this
        simp [this]
    rw [Nat.zero_add]
    have := wpAny_of_seq (P := P) (md := md) (ops := ops) (Q' := Q) (l.drop k) k listed a w (fun j => by rw [← hl]; simp) (by
      rw [List.length_drop, hlsz, hli]; exact hseq) (hf a inv.frame w inv.bel fun i φ d hr hd => by
        have hin : i < n := by
          have := (List.getElem?_eq_some_iff.1 hr).1
          omega
        exact inv.rows i hin (hall i hin) φ d hr hd)
    rwa [List.length_drop, hlsz] at this
  | succ m ih =>
    intro listed a w hc inv
    rw [show m + 1 + (ops.size - k) = (m + (ops.size - k)) + 1 by omega]
    refine ⟨fun h0 => ?_, fun i hi => ?_⟩
    · exfalso
      obtain ⟨i, h1, h2, h3⟩ := cntU_pos n listed (by omega)
      have hio := List.all_eq_true.1 hops i (List.mem_range.2 h1)
      obtain ⟨o, ho⟩ : ∃ o, ops[i]? = some o := ⟨_, Array.getElem?_eq_getElem (by omega)⟩
      rw [ho] at hio
      simp only [Bool.and_eq_true] at hio
      have : i ∈ Region.ready md ops listed := mem_ready.2 ⟨getD_in (by rw [inv.size]; omega) h2, o, ho, fun e he hb => h3 _ (by
        have := List.all_eq_true.1 hio.1 e.on (mem_depsOf he hb)
        simpa using this)⟩
      rw [h0] at this
      cases this
    · obtain ⟨hun, o, ho, hdep⟩ := mem_ready.1 hi
      have hunf := getD_both hun
      have hisz := (Array.getElem?_eq_some_iff.1 ho).1
      have hik : i < n ∨ k ≤ i := by
        rcases Nat.lt_or_ge i n with h | h
        · exact .inl h
        · rcases Nat.lt_or_ge i k with h' | h'
          · have := inv.pre i h h'
            rw [hunf] at this; cases this
          · exact .inr h'
      have hin : i < n := by
        rcases hik with h | h
        · exact h
        · exfalso
          obtain ⟨q, h1, h2, h3⟩ := cntU_pos n listed (by omega)
          have ht := List.all_eq_true.1 htail i (List.mem_range.2 hisz)
          simp only [Bool.or_eq_true, decide_eq_true_eq] at ht
          rcases ht with (ht | ht) | ht
          · omega
          · have key : ∀ (d q : Nat), q < n → n - q ≤ d → listed.getD q false = false → False := fun d => by
              induction d with
              | zero => intro q h1 h4 _; omega
              | succ d ihd =>
                intro q h1 h4 h2
                have hq := List.all_eq_true.1 ht q (List.mem_range.2 h1)
                simp only [Bool.or_eq_true] at hq
                rcases hq with hq | hq
                · obtain ⟨oj, hoj, e, he, hb, hon⟩ := Region.waitsFor_spec hq
                  obtain rfl : oj = o := Option.some.inj (hoj.symm.trans ho)
                  have := hdep e he hb
                  rw [hon, h2] at this
                  cases this
                · obtain ⟨j, hj, hj2⟩ := List.any_eq_true.1 hq
                  simp only [Bool.and_eq_true, decide_eq_true_eq] at hj2
                  have hjn := List.mem_range.1 hj
                  obtain ⟨oj, hoj, e, he, hb, hon⟩ := Region.waitsFor_spec hj2.2
                  cases hlj : listed.getD j false with
                  | true =>
                    have := inv.closed j oj hjn hlj hoj e he hb
                    rw [hon, h2] at this
                    cases this
                  | false => exact ihd j hjn (by omega) hlj
            exact key n q h1 (by omega) h2
          · obtain ⟨j, hj, hj2⟩ := List.any_eq_true.1 ht
            simp only [Bool.and_eq_true, decide_eq_true_eq] at hj2
            obtain ⟨oj, hoj, e, he, hb, hon⟩ := Region.waitsFor_spec hj2.2
            obtain rfl : oj = o := Option.some.inj (hoj.symm.trans ho)
            have := hdep e he hb
            have hjl := List.mem_range.1 hj
            rw [hon, getD_both (inv.tail j hj2.1 (by omega))] at this
            cases this
      obtain ⟨φ, hr⟩ : ∃ φ, T[i]? = some φ := ⟨_, List.getElem?_eq_getElem (by omega)⟩
      obtain ⟨d, hd⟩ : ∃ d, ds[i]? = some d := ⟨_, List.getElem?_eq_getElem (by omega)⟩
      have hio := List.all_eq_true.1 hops i (List.mem_range.2 hin)
      rw [ho] at hio
      simp only [Bool.and_eq_true, decide_eq_true_eq] at hio
      have hod : o.dst = some d := hio.2.trans hd
      have hlo : l[i]? = some o := by rw [← ho, ← hl]; simp
      have hstep := stepsM_get hs i φ o hr hlo a inv.frame w inv.bel (fun j hj => by
        have hji : j < i := by
          have := List.all_eq_true.1 hio.1 j (by simpa using hj)
          simpa using this
        refine inv.rows j (by omega) ?_
        unfold depsOf at hj
        simp only [List.contains_iff_mem, List.mem_map, List.mem_filter] at hj
        obtain ⟨e, ⟨he, hb⟩, rfl⟩ := hj
        exact hdep e (by simpa using he) hb)
      have hdm : d ∈ ds := List.mem_of_getElem? hd
      have hsz : d < a.tmps.size := by rw [inv.frame.size]; exact hin0 d hdm
      have hnext : ∀ v w', Below w.heap.size w w' → φ v w' → MInv2 md ops n k T ds a0 W (listed.setIfInBounds i true) (a.put o.dst v) w' := fun v w' hb hrv => by
        rw [hod]
        refine ⟨by simp [inv.size], fun t h1 h2 => getD_set_true (inv.pre t h1 h2), fun t h1 h2 => by rw [getD_set_ne true (by omega)]; exact inv.tail t h1 h2, inv.bel.trans (hb.mono inv.bel.size), inv.frame.put (fun k hk => (Option.some.inj hk) ▸ hdm) v, fun j hjn hjl ψ d' hr' hd' => ?_, fun j oj hjn hjl hoj e he hb2 => ?_⟩
        rotate_left
        · by_cases hji : j = i
          · subst hji
            obtain rfl : oj = o := Option.some.inj (hoj.symm.trans ho)
            exact getD_set_true (hdep e he hb2)
          · rw [getD_set_ne false (fun e => hji e.symm)] at hjl
            exact getD_set_true (inv.closed j oj hjn hjl hoj e he hb2)
        by_cases hji : j = i
        · subst hji
          obtain rfl : ψ = φ := Option.some.inj (hr'.symm.trans hr)
          obtain rfl : d' = d := Option.some.inj (hd'.symm.trans hd)
          have : (a.put (some d') v).eval (.tmp d') = v := by simp [Act.eval, Act.put, hsz]
          rw [this]
          exact hrv
        · rw [getD_set_ne false (fun e => hji e.symm)] at hjl
          have h0 := inv.rows j hjn hjl ψ d' hr' hd'
          have h1 := hst ψ (List.mem_of_getElem? hr') _ w w' hb h0
          rw [Act.eval_put fun k hk e => ?_]
          · exact h1
          · cases e
            obtain rfl := Option.some.inj hk
            exact hji (nodupB_spec hnd j i _ hd' hd)
      have hcs : cntU n (listed.setIfInBounds i true) = m := by
        have := cntU_set n i listed hin (by rw [inv.size]; omega) hunf
        omega
      unfold wpOp
      simp only [ho]
      unfold mStep at hstep
      by_cases hw : Region.wanted o (yielded ops a.tmps) = true
      · rw [if_pos hw] at hstep ⊢
        refine .inl ?_
        unfold Oper.wp
        generalize (execOp a.eval o).run P w = res at *
        cases res with
        | ok nx w' =>
          cases nx <;> simp only [mUpon] at hstep <;> simp only [Oper.upon]
          case value u => exact ih _ _ _ hcs (hnext u w' hstep.1 hstep.2)
          case skip => exact ih _ _ _ hcs (hnext undef w' hstep.1 hstep.2)
          case enter f args =>
            refine hstep.mono ?_
            rintro e w'' ⟨v, rfl, h1, h2⟩
            exact ih _ _ _ hcs (hnext v w'' h1 h2)
        | halt x w' => simp only [mUpon] at hstep
      · rw [if_neg hw] at hstep ⊢
        exact ih _ _ _ hcs (hnext undef w (Below.refl _ _) hstep)
theorem wp_region_mono2 {id : Nat} {Q : Exit → Act → World → Prop} {a0 : Act} {w : World} {l : List Oper} (n : Nat) (ds : List Nat) (T : List (Value → World → Prop)) (hm : P.follows .mixedOrders = true) (hB : monoB2 .any l.toArray n n ds = true) (hT : T.length = n)
    (hin0 : (ds.all fun d => decide (d < a0.tmps.size)) = true) (hst : ∀ φ ∈ T, ∀ v w w', Below w.heap.size w w' → φ v w → φ v w') (hs : stepsM P .any l.toArray T ds a0 w.drew T l)
    (hf : ∀ w', Below w.heap.size w.drew w' → finV ds T a0 w' fun a => wpList P l.toArray Q (l.drop n) a w') : (Code.region id l.toArray true).wp P Q a0 w := by
  refine wp_region_any hm ?_
  have hn : n ≤ l.toArray.size ∧ ds.length = n := by
    unfold monoB2 at hB
    simp only [Bool.and_eq_true, decide_eq_true_eq] at hB
    exact ⟨hB.1.1.1.1.2, hB.1.1.1.1.1.1⟩
  have := wpAny_mono2 (P := P) (md := .any) (Q := Q) (a0 := a0) (W := w.drew) rfl hT hB (fun d hd => by simpa using List.all_eq_true.1 hin0 d hd) hst hs (fun a he w' hb hr => finV_of ds T (by rw [hT]; exact hn.2) (hf w' hb) he fun i φ d h1 h2 => hr i φ d h1 h2) n (Array.replicate l.toArray.size false) a0 w.drew (cntU_replicate _ _)
    ⟨by simp, fun t h1 h2 => by omega, fun t _ ht => getD_in (by simpa using ht) (getD_replicate_false _ _), Below.refl _ _, FrameEq.refl _ _, fun i _ h => (by rw [getD_replicate_false] at h; cases h), fun i _ _ h => (by rw [getD_replicate_false] at h; cases h)⟩
  rw [show n + (l.toArray.size - n) = l.toArray.size by omega] at this
  exact this
end
end Go.Proofs.YtonbfcpbgkpbaaaGreatDoor
end
