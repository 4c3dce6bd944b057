/- recipe's parser.take: its contract. -/
import Derived.Test.YtonbfcpbgkpbaaaQTake2
namespace Go.Proofs.Ytonbfcpbgkpbaaa
open Go.RowKit Go.Sort Go.Joins
set_option linter.unusedVariables false
set_option linter.unusedSimpArgs false
set_option maxRecDepth 100000
set_option maxHeartbeats 8000000 in
/-- What may not stand there is refused. -/
theorem take_no (g : Nat) (src : ByteArray) (bad : Bool) (t : Tok) (ts : List Tok) (d : DV) (k : Nat) (a : Option Addr) (c : Nat) (ws : List ByteArray) (w : World) (h : PX w g src (bad, t :: ts) d) (hw : WSP w a ws) (hn : ws.length ≤ 1000) (hs : src.size ≤ 4194304) (hm : meetP (mW k ws) (bad, t :: ts) = false) :
    Calls Try.prog 42 #[.pointer (some ⟨g, 0, none⟩), .int .i64 (k : Nat), .slice a ws.length c] w (TakePost w g src d (zeroT, (true, t :: ts))) := by
  have hPX := h
  obtain ⟨z, hP, ⟨hsrc, hrel⟩, hd⟩ := h
  have hcom : z.k = t.k ∧ z.t = t.at' ∧ z.s = textOf t.s ∧ z.p ≤ src.size := by
    cases bad with
    | true => exact ⟨hrel.1, hrel.2.1, hrel.2.2.1, hrel.2.2.2.2⟩
    | false => exact ⟨hrel.1, hrel.2.1, hrel.2.2.1, hrel.2.2.2.2.2.1⟩
  obtain ⟨hk, ht, hss, hp⟩ := hcom
  clear hrel
  have hlt := hP.lt
  have c2 := hP.c2
  have c3 := hP.c3
  have c4 := hP.c4
  rw [hk] at c2
  rw [ht] at c3
  rw [hss] at c4
  have b1 := box_below w (.cells #[.int .i64 0, .int .i64 0, .string ⟨#[]⟩] 76)
  have hX : (w.alloc (.cells #[.int .i64 0, .int .i64 0, .string ⟨#[]⟩] 76)).heap[w.heap.size]? = some (.cells #[.int .i64 0, .int .i64 0, .string ⟨#[]⟩] 76 (0, 0)) := heap_alloc_new w _
  have e1 : (w.alloc (.cells #[.int .i64 0, .int .i64 0, .string ⟨#[]⟩] 76)).heap.size = w.heap.size + 1 := by simp
  obtain ⟨U, hU⟩ : ∃ U, U = w.alloc (.cells #[.int .i64 0, .int .i64 0, .string ⟨#[]⟩] 76) := ⟨_, rfl⟩
  rw [← hU] at b1 hX e1
  have b2 := box_below U (.cells #[.int .i64 (t.k : Nat), .int .i64 (t.at' : Nat), .string (textOf t.s)] 76)
  have hY : (U.alloc (.cells #[.int .i64 (t.k : Nat), .int .i64 (t.at' : Nat), .string (textOf t.s)] 76)).heap[U.heap.size]? = some (.cells #[.int .i64 (t.k : Nat), .int .i64 (t.at' : Nat), .string (textOf t.s)] 76 (0, 0)) := heap_alloc_new U _
  have e2 : (U.alloc (.cells #[.int .i64 (t.k : Nat), .int .i64 (t.at' : Nat), .string (textOf t.s)] 76)).heap.size = w.heap.size + 2 := by simp [e1]
  rw [e1] at hY
  obtain ⟨V, hV⟩ : ∃ V, V = U.alloc (.cells #[.int .i64 (t.k : Nat), .int .i64 (t.at' : Nat), .string (textOf t.s)] 76) := ⟨_, rfl⟩
  rw [← hV] at b2 hY e2
  have hX2 : Blk0 V w.heap.size 0 0 ⟨#[]⟩ := (b2.block w.heap.size (by omega)).trans hX
  have bV := b1.trans (b2.mono b1.size)
  have HMT := meets_any g src (bad, t :: ts) d k a c ws V (hPX.below bV hlt) (hw.below bV) hn
  rw [hm] at HMT
  have hPV := hP.below bV hlt
  have HRF := fun p y => prefuse_any g z p y V hPV
  obtain ⟨n, hnn⟩ : ∃ n, n = ws.length := ⟨_, rfl⟩
  rw [← hnn] at HMT ⊢
  have hfin : PRel src (true, t :: ts) { z with at' := (refT src.size t).1, why := (refT src.size t).2 } := ⟨hsrc, hk, ht, hss, rfl, hp⟩
  have hrt : refT src.size t = if t.k = 7 ∨ t.k = 8 then (src.size, 31) else (t.at', 30) := rfl
  have c0V := hPV.c0
  rw [hsrc] at c0V
  have HU := Lib.hid hU
  have HV := Lib.hid hV
  have HBV := Lib.hid bV
  have HE2 := Lib.hid e2
  have HX := Lib.hid hX2
  have HY := Lib.hid hY
  have HD := Lib.hid hd
  have HFN := Lib.hid hfin
  obtain ⟨tk, htk⟩ : ∃ x, x = t.k := ⟨_, rfl⟩
  obtain ⟨ta, hta⟩ : ∃ x, x = t.at' := ⟨_, rfl⟩
  obtain ⟨tx, htx⟩ : ∃ x, x = textOf t.s := ⟨_, rfl⟩
  obtain ⟨rt, hrr⟩ : ∃ x, x = refT src.size t := ⟨_, rfl⟩
  rw [← hrr] at hrt HFN
  rw [← htk] at c2 hrt
  rw [← hta] at c3 hrt
  rw [← htx] at c4
  rw [← htk, ← hta, ← htx] at HV HY
  have c2' := cell_alloc_s c2
  have c3' := cell_alloc_s c3
  have c4' := cell_alloc_s c4
  have hY0 := HY.out
  have y0 := cell_of_block hY0 0
  have y1 := cell_of_block hY0 1
  have CV0 := Lib.hid c0V
  have CY0 := Lib.hid y0
  have CY1 := Lib.hid y1
  have HRT := Lib.hid hrt
  have hs9 : src.size ≤ 9223372036854775807 := by omega
  clear hU hV bV b1 b2 e1 e2 hX hX2 hY hd hsrc htk hta htx hP hPX hk ht hss hm hnn hw hn hPV hfin hrr hrt c0V hY0 y0 y1
  go_enter Try.func42, Try.ntmps42
  go_wp2_with fail
  have e2 : (w.alloc (.cells #[.int .i64 0, .int .i64 0, .string ⟨#[]⟩] 76)).alloc (.cells #[.int .i64 (tk : Nat), .int .i64 (ta : Nat), .string tx] 76) = V := by rw [HV.out, HU.out]
  rw [e2]
  clear e2 c2 c3 c4 c2' c3' c4'
  refine HMT.mono ?_
  rintro e w1 ⟨rfl, he⟩
  obtain rfl := he.symm
  clear HMT
  have y0 := CY0.out
  have y1 := CY1.out
  have c0V := CV0.out
  by_cases h7 : tk = 7
  · have d7 : ((tk : Int) == 7) = true := by simp [h7]
    have hr := HRT.out
    rw [if_pos (.inl h7)] at hr
    have HR := Lib.hid hr
    have HRF := HRF src.size 31
    clear hr h7
    go_wp2_with fail
    refine HRF.mono ?_
    rintro e w2 ⟨rfl, hP2, hb2⟩
    have hsz := HE2.out
    have hX3 : Blk0 w2 w.heap.size 0 0 ⟨#[]⟩ := (hb2.2.2.2.2 _ (by omega) (by omega)).trans HX.out
    have x0 := cell_of_block hX3 0
    have x1 := cell_of_block hX3 1
    have x2 := cell_of_block hX3 2
    have f0 := fun j => unfrozen_of_block hX3 j
    have HZ3 := Lib.hid (tok_store hX3 0 0 ⟨#[]⟩)
    have HP6 := Lib.hid (hP2.three (z := w.heap.size) (by omega) (.int .i64 0) (.int .i64 0) (.string ⟨#[]⟩))
    have HB6 := Lib.hid (((But.of_below (b := g) HBV.out).trans (hb2.mono (by omega))).three (z := w.heap.size) (Nat.le_refl _) (.int .i64 0) (.int .i64 0) (.string ⟨#[]⟩))
    clear HRF hP2 hb2 hX3 hsz
    go_wp2_with fail
    obtain ⟨WF, hWF⟩ : ∃ WF, WF = (((w2.setCell ⟨w.heap.size, 0, none⟩ (.int .i64 0)).setCell ⟨w.heap.size, 1, none⟩ (.int .i64 0)).setCell ⟨w.heap.size, 2, none⟩ (.string ⟨#[]⟩)) := ⟨_, rfl⟩
    rw [← hWF] at HZ3 HP6 HB6 ⊢
    have u0 := cell_of_block HZ3.out 0
    have u1 := cell_of_block HZ3.out 1
    have u2 := cell_of_block HZ3.out 2
    have hfn := HFN.out
    rw [HR.out] at hfn
    exact bodyPost_ret (v := .agg #[.int .i64 0, .int .i64 0, .string ⟨#[]⟩]) (by simp [results, Try.results42, go_sem, u0, u1, u2]) rfl ⟨rfl, ⟨_, HP6.out, hfn, HD.out⟩, HB6.out⟩
  · have d7 : ((tk : Int) == 7) = false := by simp; omega
    by_cases h8 : tk = 8
    · have d8 : ((tk : Int) == 8) = true := by simp [h8]
      have hr := HRT.out
      rw [if_pos (.inr h8)] at hr
      have HR := Lib.hid hr
      have HRF := HRF src.size 31
      clear hr h7 h8
      go_wp2_with fail
      refine HRF.mono ?_
      rintro e w2 ⟨rfl, hP2, hb2⟩
      have hsz := HE2.out
      have hX3 : Blk0 w2 w.heap.size 0 0 ⟨#[]⟩ := (hb2.2.2.2.2 _ (by omega) (by omega)).trans HX.out
      have x0 := cell_of_block hX3 0
      have x1 := cell_of_block hX3 1
      have x2 := cell_of_block hX3 2
      have f0 := fun j => unfrozen_of_block hX3 j
      have HZ3 := Lib.hid (tok_store hX3 0 0 ⟨#[]⟩)
      have HP6 := Lib.hid (hP2.three (z := w.heap.size) (by omega) (.int .i64 0) (.int .i64 0) (.string ⟨#[]⟩))
      have HB6 := Lib.hid (((But.of_below (b := g) HBV.out).trans (hb2.mono (by omega))).three (z := w.heap.size) (Nat.le_refl _) (.int .i64 0) (.int .i64 0) (.string ⟨#[]⟩))
      clear HRF hP2 hb2 hX3 hsz
      go_wp2_with fail
      obtain ⟨WF, hWF⟩ : ∃ WF, WF = (((w2.setCell ⟨w.heap.size, 0, none⟩ (.int .i64 0)).setCell ⟨w.heap.size, 1, none⟩ (.int .i64 0)).setCell ⟨w.heap.size, 2, none⟩ (.string ⟨#[]⟩)) := ⟨_, rfl⟩
      rw [← hWF] at HZ3 HP6 HB6 ⊢
      have u0 := cell_of_block HZ3.out 0
      have u1 := cell_of_block HZ3.out 1
      have u2 := cell_of_block HZ3.out 2
      have hfn := HFN.out
      rw [HR.out] at hfn
      exact bodyPost_ret (v := .agg #[.int .i64 0, .int .i64 0, .string ⟨#[]⟩]) (by simp [results, Try.results42, go_sem, u0, u1, u2]) rfl ⟨rfl, ⟨_, HP6.out, hfn, HD.out⟩, HB6.out⟩
    · have d8 : ((tk : Int) == 8) = false := by simp; omega
      have hr := HRT.out
      rw [if_neg (by omega)] at hr
      have HR := Lib.hid hr
      have HRF := HRF ta 30
      clear hr h7 h8
      go_wp2_with fail
      refine HRF.mono ?_
      rintro e w2 ⟨rfl, hP2, hb2⟩
      have hsz := HE2.out
      have hX3 : Blk0 w2 w.heap.size 0 0 ⟨#[]⟩ := (hb2.2.2.2.2 _ (by omega) (by omega)).trans HX.out
      have x0 := cell_of_block hX3 0
      have x1 := cell_of_block hX3 1
      have x2 := cell_of_block hX3 2
      have f0 := fun j => unfrozen_of_block hX3 j
      have HZ3 := Lib.hid (tok_store hX3 0 0 ⟨#[]⟩)
      have HP6 := Lib.hid (hP2.three (z := w.heap.size) (by omega) (.int .i64 0) (.int .i64 0) (.string ⟨#[]⟩))
      have HB6 := Lib.hid (((But.of_below (b := g) HBV.out).trans (hb2.mono (by omega))).three (z := w.heap.size) (Nat.le_refl _) (.int .i64 0) (.int .i64 0) (.string ⟨#[]⟩))
      clear HRF hP2 hb2 hX3 hsz
      go_wp2_with fail
      obtain ⟨WF, hWF⟩ : ∃ WF, WF = (((w2.setCell ⟨w.heap.size, 0, none⟩ (.int .i64 0)).setCell ⟨w.heap.size, 1, none⟩ (.int .i64 0)).setCell ⟨w.heap.size, 2, none⟩ (.string ⟨#[]⟩)) := ⟨_, rfl⟩
      rw [← hWF] at HZ3 HP6 HB6 ⊢
      have u0 := cell_of_block HZ3.out 0
      have u1 := cell_of_block HZ3.out 1
      have u2 := cell_of_block HZ3.out 2
      have hfn := HFN.out
      rw [HR.out] at hfn
      exact bodyPost_ret (v := .agg #[.int .i64 0, .int .i64 0, .string ⟨#[]⟩]) (by simp [results, Try.results42, go_sem, u0, u1, u2]) rfl ⟨rfl, ⟨_, HP6.out, hfn, HD.out⟩, HB6.out⟩
/-- take: its contract. -/
theorem take_any (g : Nat) (src : ByteArray) (st : PS) (d : DV) (k : Nat) (a : Option Addr) (c : Nat) (ws : List ByteArray) (w : World) (h : PX w g src st d) (hw : WSP w a ws) (hn : ws.length ≤ 1000) (hs : src.size ≤ 4194304) (hk5 : k ≤ 5) :
    Calls Try.prog 42 #[.pointer (some ⟨g, 0, none⟩), .int .i64 (k : Nat), .slice a ws.length c] w (TakePost w g src d (takeP (mW k ws) st)) := by
  obtain ⟨bad, ts⟩ := st
  cases ts with
  | nil =>
    obtain ⟨z, hP, ⟨hsrc, hrel⟩, hd⟩ := h
    cases bad <;> exact hrel.elim
  | cons t ts =>
    cases bad with
    | true => exact take_no g src true t ts d k a c ws w h hw hn hs rfl
    | false =>
      show Calls _ _ _ _ (TakePost w g src d (if mW k ws t = true then (t, (false, ts)) else (zeroT, (true, t :: ts))))
      cases hm : mW k ws t with
      | true =>
        rw [if_pos rfl]
        have hkk : t.k = k := by
          unfold mW at hm
          rw [Bool.and_eq_true] at hm
          simpa using hm.1
        exact take_yes g src t ts d k a c ws w h hw hn hs (by omega) hm
      | false =>
        rw [if_neg (by decide)]
        exact take_no g src false t ts d k a c ws w h hw hn hs hm
end Go.Proofs.Ytonbfcpbgkpbaaa
