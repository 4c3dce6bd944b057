/- recipe's parser.take: its contract. -/
import Derived.Test.YtonbfcpbgkpbaaaQTake
import Derived.Deep.DeepCutAuto
namespace Go.Proofs.Ytonbfcpbgkpbaaa
open Go.RowKit Go.Sort Go.Joins
set_option linter.unusedVariables false
set_option linter.unusedSimpArgs false
set_option maxRecDepth 100000
def tokV (t : Tok) : Value := .agg #[.int .i64 (t.k : Nat), .int .i64 (t.at' : Nat), .string (textOf t.s)]
def TakePost (w : World) (g : Nat) (src : ByteArray) (d : DV) (r : Tok × PS) (e : Ending) (w' : World) : Prop :=
  e = .returned (tokV r.1) ∧ PX w' g src r.2 d ∧ But g w.heap.size w w'
theorem PB.three' {w : World} {g : Nat} {z : PZ} (h : PB w g z) (k t : Nat) (s : ByteArray) : PB (((w.setCell ⟨g, 2, none⟩ (.int .i64 (k : Nat))).setCell ⟨g, 3, none⟩ (.int .i64 (t : Nat))).setCell ⟨g, 4, none⟩ (.string s)) g { z with k := k, t := t, s := s } := ((h.setK k).setT t).setS s
theorem Blk0.other {w : World} {z b o : Nat} {k a : Int} {s : ByteArray} (h : Blk0 w z k a s) (hb : z ≠ b) (v : Value) : Blk0 (w.setCell ⟨b, o, none⟩ v) z k a s := (Below.heap_setCell _ _ _ _ hb).trans h
set_option maxHeartbeats 8000000 in
/-- What is taken is what stands next. -/
theorem take_yes (g : Nat) (src : ByteArray) (t : Tok) (ts : List Tok) (d : DV) (k : Nat) (a : Option Addr) (c : Nat) (ws : List ByteArray) (w : World) (h : PX w g src (false, t :: ts) d) (hw : WSP w a ws) (hn : ws.length ≤ 1000) (hs : src.size ≤ 4194304) (hk5 : t.k ≤ 5) (hm : mW k ws t = true) :
    Calls Try.prog 42 #[.pointer (some ⟨g, 0, none⟩), .int .i64 (k : Nat), .slice a ws.length c] w (TakePost w g src d (t, (false, ts))) := by
  obtain ⟨z, hP, ⟨hsrc, hk, ht, hss, hwy, hat, hp, hts⟩, hd⟩ := h
  rw [if_pos hk5] at hts
  have hlt := hP.lt
  have c2 := hP.c2
  have c3 := hP.c3
  have c4 := hP.c4
  rw [hk] at c2
  rw [ht] at c3
  rw [hss] at c4
  have hPX : PX w g src (false, t :: ts) d := ⟨z, hP, ⟨hsrc, hk, ht, hss, hwy, hat, hp, by rw [if_pos hk5]; exact hts⟩, hd⟩
  have b1 := box_below w (.cells #[.int .i64 0, .int .i64 0, .string ⟨#[]⟩] 76)
  have hX : (w.alloc (.cells #[.int .i64 0, .int .i64 0, .string ⟨#[]⟩] 76)).heap[w.heap.size]? = some (.cells #[.int .i64 0, .int .i64 0, .string ⟨#[]⟩] 76 (0, 0)) := heap_alloc_new w _
  have e1 : (w.alloc (.cells #[.int .i64 0, .int .i64 0, .string ⟨#[]⟩] 76)).heap.size = w.heap.size + 1 := by simp
  obtain ⟨U, hU⟩ : ∃ U, U = w.alloc (.cells #[.int .i64 0, .int .i64 0, .string ⟨#[]⟩] 76) := ⟨_, rfl⟩
  rw [← hU] at b1 hX e1
  have b2 := box_below U (.cells #[.int .i64 (t.k : Nat), .int .i64 (t.at' : Nat), .string (textOf t.s)] 76)
  have hY : (U.alloc (.cells #[.int .i64 (t.k : Nat), .int .i64 (t.at' : Nat), .string (textOf t.s)] 76)).heap[U.heap.size]? = some (.cells #[.int .i64 (t.k : Nat), .int .i64 (t.at' : Nat), .string (textOf t.s)] 76 (0, 0)) := heap_alloc_new U _
  have e2 : (U.alloc (.cells #[.int .i64 (t.k : Nat), .int .i64 (t.at' : Nat), .string (textOf t.s)] 76)).heap.size = w.heap.size + 2 := by simp [e1]
  rw [e1] at hY
  obtain ⟨V, hV⟩ : ∃ V, V = U.alloc (.cells #[.int .i64 (t.k : Nat), .int .i64 (t.at' : Nat), .string (textOf t.s)] 76) := ⟨_, rfl⟩
  rw [← hV] at b2 hY e2
  have hX2 : Blk0 V w.heap.size 0 0 ⟨#[]⟩ := (b2.block w.heap.size (by omega)).trans hX
  have bV := b1.trans (b2.mono b1.size)
  have HMT := meets_any g src (false, t :: ts) d k a c ws V (hPX.below bV hlt) (hw.below bV) hn
  have HNX := next_any g z V (hP.below bV hlt) (by rw [hsrc]; exact hp) (by rw [hsrc]; exact hs)
  rw [show meetP (mW k ws) (false, t :: ts) = mW k ws t from rfl, hm] at HMT
  obtain ⟨n, hnn⟩ : ∃ n, n = ws.length := ⟨_, rfl⟩
  rw [← hnn] at HMT ⊢
  obtain ⟨q, hq⟩ : ∃ q, q = z.p + skipN false ((tl z.src).drop z.p) := ⟨_, rfl⟩
  rw [← hq] at HNX
  obtain ⟨R, hR⟩ : ∃ R, R = tokL ((tl z.src).drop q) := ⟨_, rfl⟩
  rw [← hR] at HNX
  have HU := Lib.hid hU
  have HV := Lib.hid hV
  have HBV := Lib.hid bV
  have HE2 := Lib.hid e2
  have HX := Lib.hid hX2
  have HY := Lib.hid hY
  have HD := Lib.hid hd
  have HSRC := Lib.hid hsrc
  have HTS := Lib.hid hts
  have HWY := Lib.hid hwy
  have HAT := Lib.hid hat
  have HQ := Lib.hid hq
  have HRR := Lib.hid hR
  obtain ⟨tk, htk⟩ : ∃ x, x = t.k := ⟨_, rfl⟩
  obtain ⟨ta, hta⟩ : ∃ x, x = t.at' := ⟨_, rfl⟩
  obtain ⟨tx, htx⟩ : ∃ x, x = textOf t.s := ⟨_, rfl⟩
  have HTV : Hid (tokV t = .agg #[.int .i64 (tk : Nat), .int .i64 (ta : Nat), .string tx]) := Lib.hid (by unfold tokV; rw [htk, hta, htx])
  rw [← htk] at c2
  rw [← hta] at c3
  rw [← htx] at c4
  rw [← htk, ← hta, ← htx] at HV HY
  have c2' := cell_alloc_s c2
  have c3' := cell_alloc_s c3
  have c4' := cell_alloc_s c4
  clear hU hV bV b1 b2 e1 e2 hX hX2 hY hd hsrc hts hwy hat hq hR htk hta htx hP hPX hk ht hss hm hnn hw hn
  go_enter Try.func42, Try.ntmps42
  go_wp2_with fail
  have e2 : (w.alloc (.cells #[.int .i64 0, .int .i64 0, .string ⟨#[]⟩] 76)).alloc (.cells #[.int .i64 (tk : Nat), .int .i64 (ta : Nat), .string tx] 76) = V := by rw [HV.out, HU.out]
  rw [e2]
  clear e2 c2 c3 c4 c2' c3' c4'
  refine HMT.mono ?_
  rintro e w1 ⟨rfl, he⟩
  obtain rfl := he.symm
  clear HMT
  go_wp2_with fail
  refine HNX.mono ?_
  rintro e w2 ⟨p, rfl, hp5, hps, hP2, hb2⟩
  have x2 := hP2.c2
  have x3 := hP2.c3
  have x4 := hP2.c4
  have fg := fun j => hP2.free j
  have hsz := HE2.out
  have hX3 : Blk0 w2 w.heap.size 0 0 ⟨#[]⟩ := (hb2.2.2.2.2 _ (by omega) (by omega)).trans HX.out
  have hY3 : Blk0 w2 (w.heap.size + 1) (tk : Nat) (ta : Nat) tx := (hb2.2.2.2.2 _ (by omega) (by omega)).trans HY.out
  have hP3 := hP2.three' R.1 q (textOf R.2.2)
  have hX4 := ((hX3.other (b := g) (o := 2) (by omega) (.int .i64 (R.1 : Nat))).other (b := g) (o := 3) (by omega) (.int .i64 (q : Nat))).other (b := g) (o := 4) (by omega) (.string (textOf R.2.2))
  have hY4 := ((hY3.other (b := g) (o := 2) (by omega) (.int .i64 (R.1 : Nat))).other (b := g) (o := 3) (by omega) (.int .i64 (q : Nat))).other (b := g) (o := 4) (by omega) (.string (textOf R.2.2))
  have hB4 := (((((But.of_below (b := g) HBV.out).trans (hb2.mono (by omega))).setCell 2 (.int .i64 (R.1 : Nat))).setCell 3 (.int .i64 (q : Nat))).setCell 4 (.string (textOf R.2.2)))
  have HP5 := Lib.hid hp5
  have HP3 := Lib.hid hP3
  have HX4 := Lib.hid hX4
  have HY4 := Lib.hid hY4
  have HB4 := Lib.hid hB4
  clear HNX hP2 hb2 hX3 hY3 hP3 hX4 hY4 hB4 hp5 hsz
  go_upto_region 5 with fail
  obtain ⟨w3, hw3⟩ : ∃ w3, w3 = ((w2.setCell ⟨g, 2, none⟩ (.int .i64 (R.1 : Nat))).setCell ⟨g, 3, none⟩ (.int .i64 (q : Nat))).setCell ⟨g, 4, none⟩ (.string (textOf R.2.2)) := ⟨_, rfl⟩
  rw [← hw3] at HP3 HX4 HY4 HB4 ⊢
  clear hw3 x2 x3 x4 fg
  have y0 := cell_of_block HY4.out 0
  have y1 := cell_of_block HY4.out 1
  have y2 := cell_of_block HY4.out 2
  have x0 := cell_of_block HX4.out 0
  have x1 := cell_of_block HX4.out 1
  have x2 := cell_of_block HX4.out 2
  have f0 := fun j => unfrozen_of_block HX4.out j
  have HZ3 := Lib.hid (tok_store HX4.out (tk : Nat) (ta : Nat) tx)
  have HP6 := Lib.hid (HP3.out.three (z := w.heap.size) (by omega) (.int .i64 (tk : Nat)) (.int .i64 (ta : Nat)) (.string tx))
  have HB6 := Lib.hid (HB4.out.three (z := w.heap.size) (Nat.le_refl _) (.int .i64 (tk : Nat)) (.int .i64 (ta : Nat)) (.string tx))
  go_wp2_with fail
  obtain ⟨WF, hWF⟩ : ∃ WF, WF = (((w3.setCell ⟨w.heap.size, 0, none⟩ (.int .i64 (tk : Nat))).setCell ⟨w.heap.size, 1, none⟩ (.int .i64 (ta : Nat))).setCell ⟨w.heap.size, 2, none⟩ (.string tx)) := ⟨_, rfl⟩
  rw [← hWF] at HZ3 HP6 HB6 ⊢
  have u0 := cell_of_block HZ3.out 0
  have u1 := cell_of_block HZ3.out 1
  have u2 := cell_of_block HZ3.out 2
  refine bodyPost_ret (v := .agg #[.int .i64 (tk : Nat), .int .i64 (ta : Nat), .string tx]) (by simp [results, Try.results42, go_sem, u0, u1, u2]) rfl ⟨by rw [HTV.out], ⟨_, HP6.out, ?_, ?_⟩, HB6.out⟩
  · have hz := HSRC.out
    refine ⟨hz, ?_⟩
    rw [HTS.out, rest_eq]
    have hta : tokAt (tl src) z.p = ⟨R.1, q, R.2.2⟩ := by unfold tokAt; rw [HRR.out, HQ.out, hz]
    have hte : R.1 ≤ 5 → tokEnd (tl src) z.p = p := fun h => by rw [HP5.out h, HRR.out, HQ.out]; unfold tokEnd; rw [hz]
    rw [hta]
    refine ⟨rfl, rfl, rfl, HWY.out, HAT.out, (by rw [hz] at hps; exact hps), ?_⟩
    show (if R.1 ≤ 5 then _ else _) = (if R.1 ≤ 5 then _ else _)
    by_cases h5 : R.1 ≤ 5
    · rw [if_pos h5, if_pos h5, hte h5]
    · rw [if_neg h5, if_neg h5]
  · exact HD.out
end Go.Proofs.Ytonbfcpbgkpbaaa
