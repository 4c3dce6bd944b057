/- LruPlays' walk (written by genluplays.py out of luPlays.base.txt). -/
import Derived.Test.YtafhgigkhbcnjaaLuCat
import Derived.Test.YtafhgigkhbcnjaaLuKnown
import Derived.Test.YtafhgigkhbcnjaaRHeld
import Derived.Test.YtafhgigkhbcnjaaLuHeld
namespace Go.Proofs.Ytafhgigkhbcnjaa.LU.K
open Go.RowKit Go.Joins Go.Sort Go.Maps
set_option linter.unusedVariables false
set_option linter.unusedSimpArgs false
set_option maxRecDepth 100000
def intOf' : Value → Int
  | .int _ n => n
  | _ => 0
theorem Tu.belowN {F : Nat → Prop} {base : Nat} {w w' : World} (h : Tu F w w') (hF : ∀ i, F i → base ≤ i) (hb : base ≤ w.heap.size) : Below base w w' :=
  ⟨h.os, h.tape, h.output, h.size, fun k hk => h.block k (by omega) (fun e => by have := hF k e; omega)⟩
theorem Lru.grown {w w' : World} {x c : Nat} {F : Nat → Prop} {l : List (κ × Int)} (h : Lru w x c F l) {row : Option Nat} (hg : w.grownBy w' row) (hr : ∀ g, row = some g → ¬ F g) : Lru w' x c F l :=
  h.tu (G := fun i => row = some i) ⟨hg.os, hg.tape, hg.output, hg.size, fun k hk h => hg.block k hk (fun e => h e.symm)⟩ (fun i hi e => hr i e hi)
theorem Rw.tu {w w' : World} {B : Nat} {v : Value} {l : List (κ × Int)} {F : Nat → Prop} (h : Rw w B v l) (ht : Tu F w w') (hF : ∀ g, v.ownBlock = some g → ¬ F g) : Rw w' B v l := h.kept fun g hg => by
  obtain ⟨a, cap, rfl, _, _, h3⟩ := h.form
  exact ht.block g (h3 g hg).2.1 (hF g hg)
theorem Lru.apartR {w : World} {x c : Nat} {F : Nat → Prop} {l m : List (κ × Int)} {B : Nat} {v : Value} (h : Lru w x c F l) (hr : Rw w B v m) : ∀ g, v.ownBlock = some g → ¬ F g := fun g hg => by
  obtain ⟨a, cap, rfl, _, _, h3⟩ := hr.form
  obtain ⟨_, _, cur, hc⟩ := h3 g hg
  exact h.apart hc (by decide) (by decide)
theorem len_lru (x c : Nat) (F : Nat → Prop) (l : List (κ × Int)) (W : World) (h : Lru W x c F l) :
    Calls Try.prog 17 #[.pointer (some ⟨x, 0, none⟩)] W fun e w' => e = .returned (.int .i64 (l.length : Nat)) ∧ w' = W := by
  obtain ⟨mb, kn, bl, key, val, f, h1, rfl, _⟩ := h
  rw [rows_length]
  exact len_any x c mb kn bl key val f W h1
set_option maxHeartbeats 1000000 in
theorem plays_no (c : Int) (hc : c < 0 ∨ 4096 < c) (a : Option Addr) (n cap : Nat) (W : World) :
    Calls Try.prog 4 #[.int .i64 c, .slice a n cap] W fun e w' => e = .returned (.bool true) ∧ Below W.heap.size W w' := by
  have HN := new_no c hc W
  have HK := T.known_any W
  by_cases h0 : c < 0
  · have d0 : decide (c < 0) = true := decide_eq_true h0
    clear h0 hc
    go_enter Try.func4, Try.ntmps4
    go_wp2_with fail
    refine HN.mono ?_
    rintro e w1 ⟨rfl, he⟩
    obtain rfl := he.symm
    go_wp2_with fail
    refine HK.mono ?_
    rintro e w1 ⟨rfl, hb⟩
    go_wp2_with fail
    go_ret
    exact ⟨rfl, hb⟩
  · have d0 : decide (c < 0) = false := decide_eq_false h0
    have d1 : decide (4096 < c) = true := decide_eq_true (by omega)
    clear h0 hc
    go_enter Try.func4, Try.ntmps4
    go_wp2_with fail
    refine HN.mono ?_
    rintro e w1 ⟨rfl, he⟩
    obtain rfl := he.symm
    go_wp2_with fail
    refine HK.mono ?_
    rintro e w1 ⟨rfl, hb⟩
    go_wp2_with fail
    go_ret
    exact ⟨rfl, hb⟩
set_option maxHeartbeats 8000000 in
theorem plays_yes (c : Nat) (hc : c ≤ 4096) (a : Option Addr) (cap : Nat) (asks : List Ask) (W : World) (ha : ASP W a asks) (hk : ∀ y ∈ asks, Key64 y.key) (hlen : asks.length ≤ 9223372036854775807) :
    Calls Try.prog 4 #[.int .i64 (c : Nat), .slice a asks.length cap] W fun e w' => e = .returned (.bool true) ∧ Below W.heap.size W w' := by
  obtain ⟨B, hB⟩ : ∃ B, B = W.heap.size := ⟨_, rfl⟩
  have HB : Hid (B = W.heap.size) := hB
  rw [← hB]
  obtain ⟨n, hn⟩ : ∃ n, n = asks.length := ⟨_, rfl⟩
  have HN : Hid (n = asks.length) := hn
  rw [← hn]
  rw [← hn] at hlen
  have d0 : decide ((c : Int) < 0) = false := decide_eq_false (by omega)
  have d1 : decide (4096 < (c : Int)) = false := decide_eq_false (by omega)
  have d2 : decide (4096 < c) = false := decide_eq_false (by omega)
  have HA : Hid (ASP W a asks) := ha
  have HKY : Hid (∀ y ∈ asks, Key64 y.key) := hk
  have HC : Hid (c ≤ 4096) := hc
  clear hB hn ha hk
  go_enter Try.func4, Try.ntmps4
  go_wp2_with fail
  refine (new_any c HC.out W).mono ?_
  rintro _ w1 ⟨x, F0, rfl, h1, f1, b1⟩
  have s1 : B ≤ w1.heap.size := by rw [HB.out]; exact b1.size
  have b1 : Below B W w1 := by rw [HB.out]; exact b1
  have f1 : ∀ i, F0 i → B ≤ i := by rw [HB.out]; exact f1
  go_upto_region 7 with fail
  go_wp2_with fail
  go_loopw [7, 8] (fun s7 s8 wr => ∃ (j : Nat) (v : Value) (l : List (κ × Int)) (F : Nat → Prop), j ≤ n ∧ j ≤ 100 ∧ v = s7 ∧ s8 = .int .i64 j ∧ Rw wr B v l ∧ Lru wr x c F l ∧ (∀ i, F i → B ≤ i) ∧ Below B W wr) (fun _ s8 _ => n - (intOf s8).toNat)
  case atStart => exact ⟨0, _, [], F0, Nat.zero_le _, by omega, rfl, rfl, Rw.nil _ _, h1, f1, b1⟩
  case round =>
    obtain ⟨j, v, l, F, hjn, hj1, rfl, rfl, hR, hL, hF, hBr⟩ := hrel
    clear h1 f1 b1 s1
    by_cases hlt : j < n ∧ j < 100
    · obtain ⟨hlt, hlt2⟩ := hlt
      have dj1 : decide ((j : Int) < (n : Int)) = true := decide_eq_true (by omega)
      have dj2 : decide (j < n) = true := decide_eq_true (by omega)
      have dj3 : decide ((j : Int) < 100) = true := decide_eq_true (by omega)
      have dj4 : decide (j < 100) = true := decide_eq_true (by omega)
      have hkl : j < asks.length := by rw [← HN.out]; exact hlt
      have hnil : asks ≠ [] := fun e => by rw [e] at hkl; simp at hkl
      rcases HA.out with h | ⟨ga, oa, rfl, hca⟩
      · exact absurd h hnil
      obtain ⟨y, hy⟩ : ∃ y, asks[j]? = some y := ⟨asks[j], List.getElem?_eq_getElem hkl⟩
      have hkw : Kw y.key := (HKY.out y (List.mem_of_getElem? hy)).kw
      have hgl : ga < B := by rw [HB.out]; exact (hca j y hy).lt
      obtain ⟨q0, q1, q2, q3⟩ := (hca j y hy).below hBr hgl
      have HKW : Hid (Kw y.key) := hkw
      have HR : Hid (Rw wr B v l) := hR
      have HL : Hid (Lru wr x c F l) := hL
      have HF : Hid (∀ i, F i → B ≤ i) := hF
      have HBr : Hid (Below B W wr) := hBr
      have HS : Hid (B ≤ wr.heap.size) := by rw [HB.out]; exact hBr.size
      have hll := hL.len
      obtain ⟨al, cl, hv, hsp, hcl, hbk⟩ := hR.form
      have HSP : Hid (RSP wr al l) := hsp
      have HBK : Hid _ := hbk
      have HV : Hid (v = .slice al l.length cl) := hv
      obtain ⟨kk, hkk⟩ : ∃ kk, kk = y.key := ⟨_, rfl⟩
      have HKK : Hid (kk = y.key) := hkk
      rw [← hkk] at q1 q2
      obtain ⟨yv, hyv⟩ : ∃ yv, yv = y.val := ⟨_, rfl⟩
      have HYV : Hid (yv = y.val) := hyv
      rw [← hyv] at q3
      obtain ⟨k1, k2⟩ := kk
      obtain ⟨m, hm⟩ : ∃ m, m = l.length := ⟨_, rfl⟩
      have HM : Hid (m = l.length) := hm
      rw [← hm] at hv hll
      subst hv
      clear hca hnil hkl hkw hkk hyv hm hsp hbk hR hL hF hBr hy
      have HLc : Hid (l.length ≤ c ∧ c ≤ 4096) := HL.out.len
      have hsize : m ≤ 4096 := by have := HLc.out; rw [HM.out]; omega
      go_upto_region 11 with fail
      obtain ⟨A, hA⟩ : ∃ A, A = wr.heap.size := ⟨_, rfl⟩
      obtain ⟨wa, hwa⟩ : ∃ wa, wa = wr.alloc (.cells #[.bool y.put, .int .i64 k1, .int .i64 k2, .int .i64 yv] 39 (0, 0)) := ⟨_, rfl⟩
      have hba : Below wr.heap.size wr wa := by rw [hwa]; exact (Below.refl _ _).alloc (Nat.le_refl _) _
      have haA : wa.heap[A]? = some (.cells #[.bool y.put, .int .i64 k1, .int .i64 k2, .int .i64 yv] 39 (0, 0)) := by rw [hwa, hA]; exact heap_alloc_new wr _
      rw [← hwa, ← hA]
      have HWR : Hid (wr.heap.size = A) := hA.symm
      clear hwa hA q0 q1 q2 q3
      have HBa : Hid (Below wr.heap.size wr wa) := hba
      have HaA : Hid (wa.heap[A]? = some (.cells #[.bool y.put, .int .i64 k1, .int .i64 k2, .int .i64 yv] 39 (0, 0))) := haA
      have q1 := (cell_of_block haA (i := 1)).trans rfl
      have q2 := (cell_of_block haA (i := 2)).trans rfl
      clear hba haA
      go_wp2_with fail
      have hfind := lfind_any al cl l (k1, k2) wa (HSP.out.below HBa.out (Nat.le_refl _)) (by rw [← HM.out]; omega)
      rw [← HM.out] at hfind
      refine hfind.mono ?_
      rintro _ w2 ⟨rfl, hb2⟩
      have HB2 : Hid (Below wr.heap.size wr w2) := HBa.out.trans (hb2.mono HBa.out.size)
      have haA := (hb2.block A (Array.getElem?_eq_some_iff.1 HaA.out).1).trans HaA.out
      have HaA2 : Hid (w2.heap[A]? = some (.cells #[.bool y.put, .int .i64 k1, .int .i64 k2, .int .i64 yv] 39 (0, 0))) := haA
      have q1 := (cell_of_block haA (i := 1)).trans rfl
      have q2 := (cell_of_block haA (i := 2)).trans rfl
      have q3 := (cell_of_block haA (i := 3)).trans rfl
      clear hfind hb2 haA HBa HaA
      obtain ⟨ix, hix⟩ : ∃ ix, ix = idxZ l (k1, k2) := ⟨_, rfl⟩
      rw [← hix]
      have HIX : Hid (ix = idxZ l (k1, k2)) := hix
      clear hix
      go_upto_region 13 with fail
      obtain ⟨Z, hZ⟩ : ∃ Z, Z = w2.heap.size := ⟨_, rfl⟩
      obtain ⟨w3, hw3⟩ : ∃ w3, w3 = w2.alloc (.cells #[.int .i64 k1, .int .i64 k2, .int .i64 yv] TR (0, 0)) := ⟨_, rfl⟩
      have hb3 : Below wr.heap.size wr w3 := by rw [hw3]; exact HB2.out.alloc HB2.out.size _
      have hz3 : w3.heap[Z]? = some (.cells #[.int .i64 k1, .int .i64 k2, .int .i64 yv] TR (0, 0)) := by rw [hw3, hZ]; exact heap_alloc_new w2 _
      have ha3 : w3.heap[A]? = some (.cells #[.bool y.put, .int .i64 k1, .int .i64 k2, .int .i64 yv] 39 (0, 0)) := by rw [hw3]; exact (Below.heap_alloc w2 _ A (Array.getElem?_eq_some_iff.1 HaA2.out).1).trans HaA2.out
      have hAZ : A ≠ Z := by rw [hZ]; exact Nat.ne_of_lt (Array.getElem?_eq_some_iff.1 HaA2.out).1
      have hZwr : wr.heap.size ≤ Z := by rw [hZ]; exact HB2.out.size
      rw [← hw3, ← hZ]
      have HAZ : Hid (A ≠ Z) := hAZ
      have HZW : Hid (wr.heap.size ≤ Z) := hZwr
      have HB3 : Hid (Below wr.heap.size wr w3) := hb3
      have Hz3 : Hid _ := hz3
      have Ha3 : Hid _ := ha3
      clear hw3 hZ hb3 hz3 ha3 hAZ hZwr q1 q2 q3 HB2 HaA2
      rcases idx_cases l (k1, k2) HL.out.nodup with ⟨p, r, e1, e2, e3, e4, e5, e6⟩ | ⟨e1, e5, e6⟩
      · have hix : ix = (p : Nat) := HIX.out.trans e1
        subst hix
        obtain ⟨g, cap', cur, hv, hgB, hgh, hgl, hgm, hgc, hgt⟩ := HR.out.pos (by omega)
        simp only [Value.slice.injEq] at hv
        obtain ⟨hal, -, hcl'⟩ := hv
        subst hal
        subst hcl'
        obtain ⟨-, -, c2⟩ := cellsR_get e2
        have hsp3 := HSP.out.below HB3.out (Nat.le_refl _)
        have hr2 : w3.cell? ⟨g, p * 3 + 2, none⟩ = some (.int .i64 r.2) := by
          rcases hsp3 with h | ⟨b, o, e, hc⟩
          · rw [h] at e3; simp at e3
          · cases e
            rw [← Nat.zero_add (p * 3 + 2)]
            exact hc _ _ c2
        have HSP3 : Hid (RSP w3 (some ⟨g, 0, none⟩) l) := hsp3
        have HE5 : Hid (l.take p ++ l.drop (p + 1) = without (k1, k2) l) := e5
        have HE6 : Hid (gotL l (k1, k2) = some r.2) := e6
        have HP : Hid (p < l.length) := e3
        have hpm : p < m := by rw [HM.out]; exact e3
        have ip : 0 ≤ (p : Int) ∧ (p : Int) < (m : Int) := by omega
        have f1 := unfrozen_of_block Hz3.out 2
        have i1 := (cell_of_block Hz3.out (i := 2)).trans rfl
        clear e1 e2 e3 e4 e5 e6 c2 hsp3 hgB hgh hgl hgm hgc hgt
        obtain ⟨rv, hrv⟩ : ∃ rv, rv = r.2 := ⟨_, rfl⟩
        rw [← hrv] at hr2
        have HRV : Hid (rv = r.2) := hrv
        clear hrv
        go_upto_region 15 with fail
        obtain ⟨w4, hw4⟩ : ∃ w4, w4 = w3.setCell ⟨Z, 2, none⟩ (.int .i64 rv) := ⟨_, rfl⟩
        have hz4 : w4.heap[Z]? = some (.cells #[.int .i64 k1, .int .i64 k2, .int .i64 rv] TR (0, 0)) := by rw [hw4]; exact (block_setCell Hz3.out _).trans rfl
        have ha4 : w4.heap[A]? = some (.cells #[.bool y.put, .int .i64 k1, .int .i64 k2, .int .i64 yv] 39 (0, 0)) := by rw [hw4]; exact (Below.heap_setCell w3 ⟨Z, 2, none⟩ _ A HAZ.out).trans Ha3.out
        have hb4 : Below wr.heap.size wr w4 := by rw [hw4]; exact HB3.out.setCell (p := ⟨Z, 2, none⟩) HZW.out _
        rw [← hw4]
        have HB4 : Hid (Below wr.heap.size wr w4) := hb4
        have Hz4 : Hid _ := hz4
        have Ha4 : Hid _ := ha4
        have HSP4 : Hid (RSP w4 (some ⟨g, 0, none⟩) l) := HSP.out.below hb4 (Nat.le_refl _)
        clear hw4 hb4 hz4 ha4 f1 i1 hr2 HB3 Hz3 Ha3 HSP3
        have hncp : ¬ cl < p := by have := HM.out; omega
        have hwp : IntKind.i64.wrap ((p : Int) + 1) = (p : Int) + 1 := by rw [IntKind.wrap_i64]; omega
        obtain ⟨x8, hx8⟩ : ∃ x8 : Option Addr, x8 = if cl = p + 1 then some ⟨g, 0, none⟩ else some ⟨g, (p + 1) * 3, none⟩ := ⟨_, rfl⟩
        refine wp_region_heldtail 9 (fun _ => True) (by kernel_rfl) (by kernel_rfl) ?_
        refine HL_take (i := 1) (.slice (some ⟨g, 0, none⟩) m cl) (by kernel_rfl) rfl (by omega) (by kernel_rfl) (by kernel_rfl) (by kernel_rfl) (fun _ _ _ h => h) (.inl ⟨by kernel_rfl, fun w' hw' => by go_simp⟩) trivial ?_
        simp only [Act.put, List.getElem_toArray, List.getElem_cons_zero, List.getElem_cons_succ, List.setIfInBounds_toArray, List.set_cons_zero, List.set_cons_succ]
        refine HL_take (i := 2) (.int .i64 (p : Nat)) (by kernel_rfl) rfl (by omega) (by kernel_rfl) (by kernel_rfl) (by kernel_rfl) (fun _ _ _ h => h) (.inl ⟨by kernel_rfl, fun w' hw' => by go_simp⟩) trivial ?_
        simp only [Act.put, List.getElem_toArray, List.getElem_cons_zero, List.getElem_cons_succ, List.setIfInBounds_toArray, List.set_cons_zero, List.set_cons_succ]
        refine HL_take (i := 3) (.slice (some ⟨g, 0, none⟩) p cl) (by kernel_rfl) rfl (by omega) (by kernel_rfl) (by kernel_rfl) (by kernel_rfl) (fun _ _ _ h => h) (.inl ⟨by kernel_rfl, fun w' hw' => by go_simp⟩) trivial ?_
        simp only [Act.put, List.getElem_toArray, List.getElem_cons_zero, List.getElem_cons_succ, List.setIfInBounds_toArray, List.set_cons_zero, List.set_cons_succ]
        refine HL_take (i := 5) (.slice (some ⟨g, 0, none⟩) m cl) (by kernel_rfl) rfl (by omega) (by kernel_rfl) (by kernel_rfl) (by kernel_rfl) (fun _ _ _ h => h) (.inl ⟨by kernel_rfl, fun w' hw' => by go_simp⟩) trivial ?_
        simp only [Act.put, List.getElem_toArray, List.getElem_cons_zero, List.getElem_cons_succ, List.setIfInBounds_toArray, List.set_cons_zero, List.set_cons_succ]
        refine HL_take (i := 6) (.int .i64 (p : Nat)) (by kernel_rfl) rfl (by omega) (by kernel_rfl) (by kernel_rfl) (by kernel_rfl) (fun _ _ _ h => h) (.inl ⟨by kernel_rfl, fun w' hw' => by go_simp⟩) trivial ?_
        simp only [Act.put, List.getElem_toArray, List.getElem_cons_zero, List.getElem_cons_succ, List.setIfInBounds_toArray, List.set_cons_zero, List.set_cons_succ]
        refine HL_take (i := 7) (.int .i64 ((p : Nat) + 1)) (by kernel_rfl) rfl (by omega) (by kernel_rfl) (by kernel_rfl) (by kernel_rfl) (fun _ _ _ h => h) (.inl ⟨by kernel_rfl, fun w' hw' => by go_simp⟩) trivial ?_
        simp only [Act.put, List.getElem_toArray, List.getElem_cons_zero, List.getElem_cons_succ, List.setIfInBounds_toArray, List.set_cons_zero, List.set_cons_succ]
        refine HL_take (i := 8) (.slice x8 (m - (p + 1)) (cl - (p + 1))) (by kernel_rfl) rfl (by omega) (by kernel_rfl) (by kernel_rfl) (by kernel_rfl) (fun _ _ _ h => h) (.inl ⟨by kernel_rfl, fun w' hw' => by rw [hx8]; go_simp; intro h; exact absurd (h (by omega)) (by omega)⟩) trivial ?_
        simp only [Act.put, List.getElem_toArray, List.getElem_cons_zero, List.getElem_cons_succ, List.setIfInBounds_toArray, List.set_cons_zero, List.set_cons_succ]
        refine HL_one2 (i := 0) rfl (by omega) (by kernel_rfl) (by kernel_rfl) ?_
        obtain ⟨v5, w5, hr5, hR5⟩ := cat1 w4.drew [] (some ⟨g, 0, none⟩) cl p (l.take p) (by rw [List.length_take]; have := HM.out; omega) (by
          have := HSP4.out.part 0 p
          rw [Nat.zero_mul, List.drop_zero] at this
          exact this) (by rw [List.length_take, List.length_nil]; omega)
        refine wp_value (v := .slice (some ⟨w4.heap.size, 0, none⟩) 0 0) (w' := w4.drew.alloc (.cells (cellsR []).toArray TR (0, 0))) (by go_simp; rfl) ⟨trivial, ?_⟩
        simp only [Act.put, List.getElem_toArray, List.getElem_cons_zero, List.getElem_cons_succ, List.setIfInBounds_toArray, List.set_cons_zero, List.set_cons_succ]
        refine HL_one2 (i := 4) rfl (by omega) (by kernel_rfl) (by kernel_rfl) ?_
        refine wp_append (.tmp 73) (.tmp 76) TL TL rfl _ _ rfl rfl (fun a b => a = v5 ∧ b = w5) ⟨v5, w5, hr5, rfl, rfl⟩ ?_
        rintro v' w' ⟨q1, q2⟩
        rw [q1, q2]
        clear q1 q2 v' w'
        refine ⟨trivial, ?_⟩
        simp only [Act.put, List.getElem_toArray, List.getElem_cons_zero, List.getElem_cons_succ, List.setIfInBounds_toArray, List.set_cons_zero, List.set_cons_succ]
        obtain ⟨v6, w6, hr6, hR6, hb6, hn6⟩ := cat2 w5 w4.drew.heap.size v5 (l.take p) x8 (cl - (p + 1)) (m - (p + 1)) (l.drop (p + 1)) (by rw [List.length_drop]; have := HM.out; omega) hR5.1 (by
          rw [hx8]
          by_cases hcp : cl = p + 1
          · exact .inl (List.drop_eq_nil_of_le (by have := HM.out; omega))
          · rw [if_neg hcp]
            have := (HSP4.out.below (((Below.refl _ w4).drew).trans hR5.2.1) (Nat.le_refl _)).part (p + 1) (l.length - (p + 1))
            rw [Nat.zero_add, List.take_of_length_le (by rw [List.length_drop]; exact Nat.le_refl _)] at this
            exact this) hR5.2.2 hR5.2.1.size (by rw [List.length_take, List.length_drop]; have := HLc.out; omega)
        have hb46 : Below w4.heap.size w4 w6 := (((Below.refl _ w4).drew).trans hR5.2.1).trans hb6
        rw [HE5.out] at hR6
        have HR6' : Hid (Rw w6 B v6 (without (k1, k2) l)) := hR6.low (Nat.le_trans HS.out HB4.out.size)
        have HB6 : Hid (Below wr.heap.size wr w6) := HB4.out.trans (hb46.mono HB4.out.size)
        have Hz6 := (hb46.block Z (Array.getElem?_eq_some_iff.1 Hz4.out).1).trans Hz4.out
        have Ha6 := (hb46.block A (Array.getElem?_eq_some_iff.1 Ha4.out).1).trans Ha4.out
        have HZ6 : Hid _ := Hz6
        have HL6 : Hid (Lru w6 x c F l) := HL.out.below HB6.out
        obtain ⟨a6, c6, hv6, -⟩ := HR6'.out.form
        obtain ⟨m6, hm6⟩ : ∃ m6, m6 = (without (k1, k2) l).length := ⟨_, rfl⟩
        rw [← hm6] at hv6
        have HR6 : Hid (Rw w6 B (.slice a6 m6 c6) (without (k1, k2) l)) := by rw [← hv6]; exact HR6'.out
        refine ⟨by kernel_rfl, ?_⟩
        simp only [List.drop_succ_cons, List.drop_zero]
        subst hv6
        have ip0 : ((p : Int) >= 0) := by omega
        have dp0 : decide ((0 : Int) ≤ (p : Int)) = true := decide_eq_true (by omega)
        clear hr5 hR5 hb46 hR6 hb6 hn6 hm6 HR6' Hz6 hx8 HSP4 HB4 Hz4 Ha4 hncp hwp
        go_upto_region 16 with (first | (at_builtin; refine wpList_append_run rfl (.tmp 77) (.tmp 81) TL TL rfl _ _ rfl rfl _ w6 hr6 ?_; clear hr6) | fail)
        cases hyp : y.put with
        | true =>
          have hy : y.put = true := hyp
          rw [hy] at Ha6
          have HA6 : Hid _ := Ha6
          have q0 := (cell_of_block Ha6 (i := 0)).trans rfl
          have q1 := (cell_of_block Ha6 (i := 1)).trans rfl
          have q2 := (cell_of_block Ha6 (i := 2)).trans rfl
          have q3 := (cell_of_block Ha6 (i := 3)).trans rfl
          clear hy hyp Ha6
          go_wp2_with fail
          have hput := put_any (k1, k2) yv (by rw [HKK.out]; exact HKW.out) x c F l w6 HL6.out
          unfold kv at hput
          refine hput.mono ?_
          rintro _ w7 ⟨rfl, FT, hL7, hF7, hT7⟩
          have HL7 : Hid (Lru w7 x c FT (putL c l (k1, k2) yv)) := hL7
          have HFT : Hid (∀ i, FT i → B ≤ i) := fun i hi => (hF7 i hi).elim (HF.out i) (fun h => Nat.le_trans (Nat.le_trans HS.out HB6.out.size) h)
          have HB7 : Hid (Below B W w7) := (HBr.out.trans (HB6.out.mono HS.out)).trans (Tu.belowN hT7 HF.out (Nat.le_trans HS.out HB6.out.size))
          have HR7 : Hid (Rw w7 B (.slice a6 m6 c6) (without (k1, k2) l)) := HR6.out.tu hT7 (HL6.out.apartR HR6.out)
          have Ha7 := (hT7.block A (Array.getElem?_eq_some_iff.1 HA6.out).1 (HL6.out.apart HA6.out (by decide) (by decide))).trans HA6.out
          have q1 := (cell_of_block Ha7 (i := 1)).trans rfl
          have q2 := (cell_of_block Ha7 (i := 2)).trans rfl
          have q3 := (cell_of_block Ha7 (i := 3)).trans rfl
          obtain ⟨a7, c7, e7, hsp7, hcl7, -⟩ := HR7.out.form
          simp only [Value.slice.injEq] at e7
          obtain ⟨rfl, hm6, rfl⟩ := e7
          have hwl : (without (k1, k2) l).length ≤ 4096 := by have := without_le (k1, k2) l; have := HLc.out; omega
          obtain ⟨v8, w8, hr8, hR8, hb8, hn8⟩ := cat1 w7 [((k1, k2), yv)] a6 c6 m6 (without (k1, k2) l) hm6 hsp7 (by rw [List.length_singleton]; omega)
          have HR8 : Hid (Rw w8 B v8 (((k1, k2), yv) :: without (k1, k2) l)) := hR8.low (Nat.le_trans (Nat.le_of_eq HB.out) HB7.out.size)
          have HB8 : Hid (Below B W w8) := HB7.out.trans (hb8.mono (Nat.le_trans (Nat.le_of_eq HB.out) HB7.out.size))
          have HL8 : Hid (Lru w8 x c FT (putL c l (k1, k2) yv)) := HL7.out.below hb8
          have hm4 : m6 ≤ 4096 := by omega
          have HM6 : Hid (m6 = (without (k1, k2) l).length) := hm6
          obtain ⟨g8, c8, cur8, hv8, -, -, hcap8, -⟩ := HR8.out.pos (by simp)
          have hcap8' : m6 + 1 ≤ c8 := by have := hcap8; simp at this; have := HM6.out; omega
          have hv8' : v8 = .slice (some ⟨g8, 0, none⟩) (m6 + 1) c8 := by rw [hv8, HM6.out]; rfl
          have hr8' : (Builtin.append_ #[TL, TL] TL #[.slice (some ⟨w7.heap.size, 0, none⟩) 1 1, .slice a6 m6 c6]).run Try.prog (w7.alloc (.cells #[.int .i64 k1, .int .i64 k2, .int .i64 yv] TR (0, 0))) = .ok v8 w8 := hr8
          clear hput hL7 hF7 hT7 Ha7 hsp7 hcl7 hR8 hb8 hn8 hm6 hv8 hcap8 hwl HL7 HB7 HR7 hr8
          subst hv8'
          go_upto_region 19 with (first | (at_builtin; refine wpList_append_run rfl (.tmp 96) (.tmp 97) TL TL rfl _ _ rfl rfl _ w8 hr8' ?_; clear hr8') | fail)
          by_cases hgt : c < m6 + 1
          · have dg1 : decide ((c : Int) < (m6 : Int) + 1) = true := decide_eq_true (by omega)
            have dg2 : decide (c < m6 + 1) = true := decide_eq_true hgt
            have hcc : c ≤ c8 := by omega
            have ic : 0 ≤ (c : Int) ∧ (c : Int) ≤ (c8 : Int) := by omega
            have HRT : Hid (Rw w8 B (.slice (some ⟨g8, 0, none⟩) c c8) (putL c l (k1, k2) yv)) := HR8.out.cut c (by rw [List.length_cons, ← HM6.out]; omega) (by rw [List.length_cons, ← HM6.out])
            have HQT : Hid (c = (putL c l (k1, k2) yv).length) := by
              unfold putL
              show c = _
              rw [List.length_take, List.length_cons, ← HM6.out]; omega
            obtain ⟨lT, hlT⟩ : ∃ lT, lT = putL c l (k1, k2) yv := ⟨_, rfl⟩
            rw [← hlT] at HRT HQT HL8
            clear hlT hgt HR8
            go_upto_region 26 with fail
            obtain ⟨aT, haT⟩ : ∃ aT : Option Addr, aT = some ⟨g8, 0, none⟩ := ⟨_, rfl⟩
            rw [← haT] at HRT ⊢
            clear haT
            have HSPT : Hid (RSP w8 aT lT) := by
              obtain ⟨a9, c9, e9, h9, -⟩ := HRT.out.form
              simp only [Value.slice.injEq] at e9
              rw [e9.1]; exact h9
            have hlt9 := HL8.out.len
            go_wp2_with fail
            refine (keys_any x c FT lT w8 HL8.out).mono ?_
            rintro _ wK ⟨gk, rfl, hgk, hOK, hbK⟩
            have HLK : Hid (Lru wK x c FT lT) := HL8.out.below hbK
            have HRK : Hid (Rw wK B (.slice aT c c8) lT) := HRT.out.below hbK
            have HSK : Hid (RSP wK aT lT) := HSPT.out.below hbK (Nat.le_refl _)
            have HBK : Hid (Below B W wK) := HB8.out.trans (hbK.mono (Nat.le_trans (Nat.le_of_eq HB.out) HB8.out.size))
            have HOK : Hid (OwnE wK gk (cellsE (lT.map (·.1)))) := hOK
            have HgK : Hid (gk < wK.heap.size) := OwnE.lt hOK
            rw [← HQT.out]
            clear hgk hOK hbK HL8 HRT HSPT HB8
            go_wp2_with fail
            refine (len_lru x c FT lT wK HLK.out).mono ?_
            rintro _ wL ⟨rfl, he⟩
            obtain rfl := he.symm
            rw [← HQT.out]
            have hq4 : c ≤ 4096 := by have := HQT.out; omega
            have hqq : ((c : Int) != (c : Int)) = false := by simp
            clear hlt9
            go_wp2_with fail
            go_loopw [15] (fun s15 wq => ∃ i : Nat, i ≤ c ∧ s15 = .int .i64 i ∧ Below wK.heap.size wK wq) (fun s15 _ => c - (intOf s15).toNat)
            case atStart => exact ⟨0, Nat.zero_le _, rfl, Below.refl _ _⟩
            case round =>
              obtain ⟨i, hi, rfl, hbq⟩ := hrel
              have HBQ : Hid (Below wK.heap.size wK wr) := hbq
              by_cases hiq : i < c
              · have hil : i < lT.length := by rw [← HQT.out]; exact hiq
                obtain ⟨z, hz⟩ : ∃ z, lT[i]? = some z := ⟨lT[i], List.getElem?_eq_getElem hil⟩
                have hkz : (lT.map (·.1))[i]? = some z.1 := by rw [List.getElem?_map, hz]; rfl
                have hnil : lT ≠ [] := fun e => by rw [e] at hil; simp at hil
                obtain ⟨t0, t1⟩ := (OwnE.at_ (l := lT.map (·.1)) (R := []) (by rw [List.append_nil]; exact HOK.out) hkz).below HBQ.out HgK.out
                obtain ⟨b, o, hat, hc⟩ : ∃ b o, aT = some ⟨b, o, none⟩ ∧ ∀ j u, (cellsR lT)[j]? = some u → wK.cell? ⟨b, o + j, none⟩ = some u := by
                  rcases HSK.out with h | h
                  · exact absurd h hnil
                  · exact h
                subst hat
                obtain ⟨y0, y1, y2⟩ := cellsR_get hz
                have u0 := hc _ _ y0
                have u1 := hc _ _ y1
                have hbK : b < wK.heap.size := World.block_lt_of_cell? wK _ u0
                have u0 := (HBQ.out.cell (p := ⟨b, o + i * 3, none⟩) hbK).trans u0
                have u1 := (HBQ.out.cell (p := ⟨b, o + (i * 3 + 1), none⟩) hbK).trans u1
                rw [← Nat.add_assoc] at u1
                have HE := eqIn_sp z.1 z.1 true (spEq_self z.1)
                have HF' := neq_sp z.1 z.1 false (by rw [spEq_self]; rfl)
                clear hil hz hkz hnil hc y0 y1 y2 hbK hbq
                go_wp2_with fail
                go_quiet (fail)
                go_wp2_with fail
                refine ⟨⟨i + 1, by omega, by go_num, below_drewN HBQ.out nq⟩, by simp only [intOf]; omega⟩
              · obtain rfl : c = i := by omega
                have HFIN : Hid (Rw wr B (.slice aT c c8) lT ∧ Lru wr x c FT lT ∧ Below B W wr) := ⟨HRK.out.below HBQ.out, HLK.out.below HBQ.out, HBK.out.trans (HBQ.out.mono (Nat.le_trans (Nat.le_of_eq HB.out) HBK.out.size))⟩
                clear hbq
                go_wp2_with fail
                go_roundw
                case rel => exact ⟨j + 1, _, lT, FT, by omega, by omega, rfl, by go_num, HFIN.out.1, HFIN.out.2.1, HFT.out, HFIN.out.2.2⟩
                case measure => simp only [intOf]; omega
          · have dg1 : decide ((c : Int) < (m6 : Int) + 1) = false := decide_eq_false (by omega)
            have dg2 : decide (c < m6 + 1) = false := decide_eq_false hgt
            have HRT : Hid (Rw w8 B (.slice (some ⟨g8, 0, none⟩) (m6 + 1) c8) (putL c l (k1, k2) yv)) := by
              unfold putL
              rw [List.take_of_length_le (by rw [List.length_cons, ← HM6.out]; omega)]
              exact HR8.out
            have HQT : Hid (m6 + 1 = (putL c l (k1, k2) yv).length) := by
              unfold putL
              show m6 + 1 = _
              rw [List.length_take, List.length_cons, ← HM6.out]; omega
            obtain ⟨lT, hlT⟩ : ∃ lT, lT = putL c l (k1, k2) yv := ⟨_, rfl⟩
            rw [← hlT] at HRT HQT HL8
            clear hlT hgt HR8
            go_upto_region 26 with fail
            obtain ⟨aT, haT⟩ : ∃ aT : Option Addr, aT = some ⟨g8, 0, none⟩ := ⟨_, rfl⟩
            rw [← haT] at HRT ⊢
            clear haT
            obtain ⟨qT, hqT⟩ : ∃ qT, qT = m6 + 1 := ⟨_, rfl⟩
            rw [← hqT] at HRT HQT ⊢
            clear hqT
            have HSPT : Hid (RSP w8 aT lT) := by
              obtain ⟨a9, c9, e9, h9, -⟩ := HRT.out.form
              simp only [Value.slice.injEq] at e9
              rw [e9.1]; exact h9
            have hlt9 := HL8.out.len
            go_wp2_with fail
            refine (keys_any x c FT lT w8 HL8.out).mono ?_
            rintro _ wK ⟨gk, rfl, hgk, hOK, hbK⟩
            have HLK : Hid (Lru wK x c FT lT) := HL8.out.below hbK
            have HRK : Hid (Rw wK B (.slice aT qT c8) lT) := HRT.out.below hbK
            have HSK : Hid (RSP wK aT lT) := HSPT.out.below hbK (Nat.le_refl _)
            have HBK : Hid (Below B W wK) := HB8.out.trans (hbK.mono (Nat.le_trans (Nat.le_of_eq HB.out) HB8.out.size))
            have HOK : Hid (OwnE wK gk (cellsE (lT.map (·.1)))) := hOK
            have HgK : Hid (gk < wK.heap.size) := OwnE.lt hOK
            rw [← HQT.out]
            clear hgk hOK hbK HL8 HRT HSPT HB8
            go_wp2_with fail
            refine (len_lru x c FT lT wK HLK.out).mono ?_
            rintro _ wL ⟨rfl, he⟩
            obtain rfl := he.symm
            rw [← HQT.out]
            have hq4 : qT ≤ 4096 := by have := HQT.out; omega
            have hqq : ((qT : Int) != (qT : Int)) = false := by simp
            clear hlt9
            go_wp2_with fail
            go_loopw [15] (fun s15 wq => ∃ i : Nat, i ≤ qT ∧ s15 = .int .i64 i ∧ Below wK.heap.size wK wq) (fun s15 _ => qT - (intOf s15).toNat)
            case atStart => exact ⟨0, Nat.zero_le _, rfl, Below.refl _ _⟩
            case round =>
              obtain ⟨i, hi, rfl, hbq⟩ := hrel
              have HBQ : Hid (Below wK.heap.size wK wr) := hbq
              by_cases hiq : i < qT
              · have hil : i < lT.length := by rw [← HQT.out]; exact hiq
                obtain ⟨z, hz⟩ : ∃ z, lT[i]? = some z := ⟨lT[i], List.getElem?_eq_getElem hil⟩
                have hkz : (lT.map (·.1))[i]? = some z.1 := by rw [List.getElem?_map, hz]; rfl
                have hnil : lT ≠ [] := fun e => by rw [e] at hil; simp at hil
                obtain ⟨t0, t1⟩ := (OwnE.at_ (l := lT.map (·.1)) (R := []) (by rw [List.append_nil]; exact HOK.out) hkz).below HBQ.out HgK.out
                obtain ⟨b, o, hat, hc⟩ : ∃ b o, aT = some ⟨b, o, none⟩ ∧ ∀ j u, (cellsR lT)[j]? = some u → wK.cell? ⟨b, o + j, none⟩ = some u := by
                  rcases HSK.out with h | h
                  · exact absurd h hnil
                  · exact h
                subst hat
                obtain ⟨y0, y1, y2⟩ := cellsR_get hz
                have u0 := hc _ _ y0
                have u1 := hc _ _ y1
                have hbK : b < wK.heap.size := World.block_lt_of_cell? wK _ u0
                have u0 := (HBQ.out.cell (p := ⟨b, o + i * 3, none⟩) hbK).trans u0
                have u1 := (HBQ.out.cell (p := ⟨b, o + (i * 3 + 1), none⟩) hbK).trans u1
                rw [← Nat.add_assoc] at u1
                have HE := eqIn_sp z.1 z.1 true (spEq_self z.1)
                have HF' := neq_sp z.1 z.1 false (by rw [spEq_self]; rfl)
                clear hil hz hkz hnil hc y0 y1 y2 hbK hbq
                go_wp2_with fail
                go_quiet (fail)
                go_wp2_with fail
                refine ⟨⟨i + 1, by omega, by go_num, below_drewN HBQ.out nq⟩, by simp only [intOf]; omega⟩
              · obtain rfl : qT = i := by omega
                have HFIN : Hid (Rw wr B (.slice aT qT c8) lT ∧ Lru wr x c FT lT ∧ Below B W wr) := ⟨HRK.out.below HBQ.out, HLK.out.below HBQ.out, HBK.out.trans (HBQ.out.mono (Nat.le_trans (Nat.le_of_eq HB.out) HBK.out.size))⟩
                clear hbq
                go_wp2_with fail
                go_roundw
                case rel => exact ⟨j + 1, _, lT, FT, by omega, by omega, rfl, by go_num, HFIN.out.1, HFIN.out.2.1, HFT.out, HFIN.out.2.2⟩
                case measure => simp only [intOf]; omega
        | false =>
          have hy : y.put = false := hyp
          rw [hy] at Ha6
          have HA6 : Hid _ := Ha6
          have q0 := (cell_of_block Ha6 (i := 0)).trans rfl
          have q1 := (cell_of_block Ha6 (i := 1)).trans rfl
          have q2 := (cell_of_block Ha6 (i := 2)).trans rfl
          clear hy hyp Ha6
          go_wp2_with fail
          have hget := get_any (k1, k2) (by rw [HKK.out]; exact HKW.out) x c F l w6 HL6.out
          unfold kv at hget
          rw [HE6.out] at hget
          refine hget.mono ?_
          rintro _ w7 ⟨rfl, hL7, hT7⟩
          have HL7 : Hid (Lru w7 x c F (getL l (k1, k2))) := hL7
          have HB7 : Hid (Below B W w7) := (HBr.out.trans (HB6.out.mono HS.out)).trans (Tu.belowN hT7 HF.out (Nat.le_trans HS.out HB6.out.size))
          have HR7 : Hid (Rw w7 B (.slice a6 m6 c6) (without (k1, k2) l)) := HR6.out.tu hT7 (HL6.out.apartR HR6.out)
          have Hz7 := (hT7.block Z (Array.getElem?_eq_some_iff.1 HZ6.out).1 (HL6.out.apart HZ6.out (by decide) (by decide))).trans HZ6.out
          have z0 := (cell_of_block Hz7 (i := 0)).trans rfl
          have z1 := (cell_of_block Hz7 (i := 1)).trans rfl
          have z2 := (cell_of_block Hz7 (i := 2)).trans rfl
          obtain ⟨a7, c7, e7, hsp7, hcl7, -⟩ := HR7.out.form
          simp only [Value.slice.injEq] at e7
          obtain ⟨rfl, hm6, rfl⟩ := e7
          have hwl : (without (k1, k2) l).length ≤ 4096 := by have := without_le (k1, k2) l; have := HLc.out; omega
          obtain ⟨v8, w8, hr8, hR8, hb8, hn8⟩ := cat1 w7 [((k1, k2), rv)] a6 c6 m6 (without (k1, k2) l) hm6 hsp7 (by rw [List.length_singleton]; omega)
          have HR8 : Hid (Rw w8 B v8 (((k1, k2), rv) :: without (k1, k2) l)) := hR8.low (Nat.le_trans (Nat.le_of_eq HB.out) HB7.out.size)
          have HB8 : Hid (Below B W w8) := HB7.out.trans (hb8.mono (Nat.le_trans (Nat.le_of_eq HB.out) HB7.out.size))
          have hgl : getL l (k1, k2) = ((k1, k2), rv) :: without (k1, k2) l := by rw [getL_some HE6.out, HRV.out]
          have HL8 : Hid (Lru w8 x c F (((k1, k2), rv) :: without (k1, k2) l)) := by rw [← hgl]; exact HL7.out.below hb8
          have hm4 : m6 ≤ 4096 := by omega
          have HM6 : Hid (m6 = (without (k1, k2) l).length) := hm6
          obtain ⟨g8, c8, cur8, hv8, -, -, hcap8, -⟩ := HR8.out.pos (by simp)
          have hcap8' : m6 + 1 ≤ c8 := by have := hcap8; simp at this; have := HM6.out; omega
          have hv8' : v8 = .slice (some ⟨g8, 0, none⟩) (m6 + 1) c8 := by rw [hv8, HM6.out]; rfl
          have hr8' : (Builtin.append_ #[TL, TL] TL #[.slice (some ⟨w7.heap.size, 0, none⟩) 1 1, .slice a6 m6 c6]).run Try.prog (w7.alloc (.cells #[.int .i64 k1, .int .i64 k2, .int .i64 rv] TR (0, 0))) = .ok v8 w8 := hr8
          have HRVs : r.2 = rv := HRV.out.symm
          clear hget hL7 hT7 Hz7 hsp7 hcl7 hR8 hb8 hn8 hm6 hv8 hcap8 hwl HL7 HB7 HR7 hr8 hgl
          subst hv8'
          have HRT : Hid (Rw w8 B (.slice (some ⟨g8, 0, none⟩) (m6 + 1) c8) (((k1, k2), rv) :: without (k1, k2) l)) := HR8.out
          have HQT : Hid (m6 + 1 = (((k1, k2), rv) :: without (k1, k2) l).length) := by
            show m6 + 1 = _
            rw [List.length_cons, ← HM6.out]
          obtain ⟨lT, hlT⟩ : ∃ lT, lT = ((k1, k2), rv) :: without (k1, k2) l := ⟨_, rfl⟩
          rw [← hlT] at HRT HQT HL8
          clear hlT HR8
          simp only [Option.getD_some, Option.isSome_some, HRVs]
          clear HRVs
          go_upto_region 26 with (first | (at_builtin; refine wpList_append_run rfl (.tmp 137) (.tmp 138) TL TL rfl _ _ rfl rfl _ w8 hr8' ?_; clear hr8') | fail)
          obtain ⟨aT, haT⟩ : ∃ aT : Option Addr, aT = some ⟨g8, 0, none⟩ := ⟨_, rfl⟩
          rw [← haT] at HRT ⊢
          clear haT
          obtain ⟨qT, hqT⟩ : ∃ qT, qT = m6 + 1 := ⟨_, rfl⟩
          rw [← hqT] at HRT HQT ⊢
          clear hqT
          have HSPT : Hid (RSP w8 aT lT) := by
            obtain ⟨a9, c9, e9, h9, -⟩ := HRT.out.form
            simp only [Value.slice.injEq] at e9
            rw [e9.1]; exact h9
          have hlt9 := HL8.out.len
          go_wp2_with fail
          refine (keys_any x c F lT w8 HL8.out).mono ?_
          rintro _ wK ⟨gk, rfl, hgk, hOK, hbK⟩
          have HLK : Hid (Lru wK x c F lT) := HL8.out.below hbK
          have HRK : Hid (Rw wK B (.slice aT qT c8) lT) := HRT.out.below hbK
          have HSK : Hid (RSP wK aT lT) := HSPT.out.below hbK (Nat.le_refl _)
          have HBK : Hid (Below B W wK) := HB8.out.trans (hbK.mono (Nat.le_trans (Nat.le_of_eq HB.out) HB8.out.size))
          have HOK : Hid (OwnE wK gk (cellsE (lT.map (·.1)))) := hOK
          have HgK : Hid (gk < wK.heap.size) := OwnE.lt hOK
          rw [← HQT.out]
          clear hgk hOK hbK HL8 HRT HSPT HB8
          go_wp2_with fail
          refine (len_lru x c F lT wK HLK.out).mono ?_
          rintro _ wL ⟨rfl, he⟩
          obtain rfl := he.symm
          rw [← HQT.out]
          have hq4 : qT ≤ 4096 := by have := HQT.out; omega
          have hqq : ((qT : Int) != (qT : Int)) = false := by simp
          clear hlt9
          go_wp2_with fail
          go_loopw [15] (fun s15 wq => ∃ i : Nat, i ≤ qT ∧ s15 = .int .i64 i ∧ Below wK.heap.size wK wq) (fun s15 _ => qT - (intOf s15).toNat)
          case atStart => exact ⟨0, Nat.zero_le _, rfl, Below.refl _ _⟩
          case round =>
            obtain ⟨i, hi, rfl, hbq⟩ := hrel
            have HBQ : Hid (Below wK.heap.size wK wr) := hbq
            by_cases hiq : i < qT
            · have hil : i < lT.length := by rw [← HQT.out]; exact hiq
              obtain ⟨z, hz⟩ : ∃ z, lT[i]? = some z := ⟨lT[i], List.getElem?_eq_getElem hil⟩
              have hkz : (lT.map (·.1))[i]? = some z.1 := by rw [List.getElem?_map, hz]; rfl
              have hnil : lT ≠ [] := fun e => by rw [e] at hil; simp at hil
              obtain ⟨t0, t1⟩ := (OwnE.at_ (l := lT.map (·.1)) (R := []) (by rw [List.append_nil]; exact HOK.out) hkz).below HBQ.out HgK.out
              obtain ⟨b, o, hat, hc⟩ : ∃ b o, aT = some ⟨b, o, none⟩ ∧ ∀ j u, (cellsR lT)[j]? = some u → wK.cell? ⟨b, o + j, none⟩ = some u := by
                rcases HSK.out with h | h
                · exact absurd h hnil
                · exact h
              subst hat
              obtain ⟨y0, y1, y2⟩ := cellsR_get hz
              have u0 := hc _ _ y0
              have u1 := hc _ _ y1
              have hbK : b < wK.heap.size := World.block_lt_of_cell? wK _ u0
              have u0 := (HBQ.out.cell (p := ⟨b, o + i * 3, none⟩) hbK).trans u0
              have u1 := (HBQ.out.cell (p := ⟨b, o + (i * 3 + 1), none⟩) hbK).trans u1
              rw [← Nat.add_assoc] at u1
              have HE := eqIn_sp z.1 z.1 true (spEq_self z.1)
              have HF' := neq_sp z.1 z.1 false (by rw [spEq_self]; rfl)
              clear hil hz hkz hnil hc y0 y1 y2 hbK hbq
              go_wp2_with fail
              go_quiet (fail)
              go_wp2_with fail
              refine ⟨⟨i + 1, by omega, by go_num, below_drewN HBQ.out nq⟩, by simp only [intOf]; omega⟩
            · obtain rfl : qT = i := by omega
              have HFIN : Hid (Rw wr B (.slice aT qT c8) lT ∧ Lru wr x c F lT ∧ Below B W wr) := ⟨HRK.out.below HBQ.out, HLK.out.below HBQ.out, HBK.out.trans (HBQ.out.mono (Nat.le_trans (Nat.le_of_eq HB.out) HBK.out.size))⟩
              clear hbq
              go_wp2_with fail
              go_roundw
              case rel => exact ⟨j + 1, _, lT, F, by omega, by omega, rfl, by go_num, HFIN.out.1, HFIN.out.2.1, HF.out, HFIN.out.2.2⟩
              case measure => simp only [intOf]; omega
      · have hix : ix = -1 := HIX.out.trans e1
        subst hix
        have HE5 : Hid (without (k1, k2) l = l) := e5
        have HE6 : Hid (gotL l (k1, k2) = none) := e6
        have HB6 : Hid (Below wr.heap.size wr w3) := HB3.out
        have HL6 : Hid (Lru w3 x c F l) := HL.out.below HB6.out
        have HR6 : Hid (Rw w3 B (.slice al m cl) (without (k1, k2) l)) := by rw [HE5.out]; have := HR.out.below HB6.out; rw [HV.out, ← HM.out] at this; exact this
        have Ha6 := Ha3.out
        have HZ6 : Hid _ := Hz3.out
        clear e1 e5 e6 Ha3
        go_upto_region 16 with fail
        cases hyp : y.put with
        | true =>
          have hy : y.put = true := hyp
          rw [hy] at Ha6
          have HA6 : Hid _ := Ha6
          have q0 := (cell_of_block Ha6 (i := 0)).trans rfl
          have q1 := (cell_of_block Ha6 (i := 1)).trans rfl
          have q2 := (cell_of_block Ha6 (i := 2)).trans rfl
          have q3 := (cell_of_block Ha6 (i := 3)).trans rfl
          clear hy hyp Ha6
          go_wp2_with fail
          have hput := put_any (k1, k2) yv (by rw [HKK.out]; exact HKW.out) x c F l w3 HL6.out
          unfold kv at hput
          refine hput.mono ?_
          rintro _ w7 ⟨rfl, FT, hL7, hF7, hT7⟩
          have HL7 : Hid (Lru w7 x c FT (putL c l (k1, k2) yv)) := hL7
          have HFT : Hid (∀ i, FT i → B ≤ i) := fun i hi => (hF7 i hi).elim (HF.out i) (fun h => Nat.le_trans (Nat.le_trans HS.out HB6.out.size) h)
          have HB7 : Hid (Below B W w7) := (HBr.out.trans (HB6.out.mono HS.out)).trans (Tu.belowN hT7 HF.out (Nat.le_trans HS.out HB6.out.size))
          have HR7 : Hid (Rw w7 B (.slice al m cl) (without (k1, k2) l)) := HR6.out.tu hT7 (HL6.out.apartR HR6.out)
          have Ha7 := (hT7.block A (Array.getElem?_eq_some_iff.1 HA6.out).1 (HL6.out.apart HA6.out (by decide) (by decide))).trans HA6.out
          have q1 := (cell_of_block Ha7 (i := 1)).trans rfl
          have q2 := (cell_of_block Ha7 (i := 2)).trans rfl
          have q3 := (cell_of_block Ha7 (i := 3)).trans rfl
          obtain ⟨a7, c7, e7, hsp7, hcl7, -⟩ := HR7.out.form
          simp only [Value.slice.injEq] at e7
          obtain ⟨rfl, hm6, rfl⟩ := e7
          have hwl : (without (k1, k2) l).length ≤ 4096 := by have := without_le (k1, k2) l; have := HLc.out; omega
          obtain ⟨v8, w8, hr8, hR8, hb8, hn8⟩ := cat1 w7 [((k1, k2), yv)] al cl m (without (k1, k2) l) hm6 hsp7 (by rw [List.length_singleton]; omega)
          have HR8 : Hid (Rw w8 B v8 (((k1, k2), yv) :: without (k1, k2) l)) := hR8.low (Nat.le_trans (Nat.le_of_eq HB.out) HB7.out.size)
          have HB8 : Hid (Below B W w8) := HB7.out.trans (hb8.mono (Nat.le_trans (Nat.le_of_eq HB.out) HB7.out.size))
          have HL8 : Hid (Lru w8 x c FT (putL c l (k1, k2) yv)) := HL7.out.below hb8
          have hm4 : m ≤ 4096 := by omega
          have HM6 : Hid (m = (without (k1, k2) l).length) := hm6
          obtain ⟨g8, c8, cur8, hv8, -, -, hcap8, -⟩ := HR8.out.pos (by simp)
          have hcap8' : m + 1 ≤ c8 := by have := hcap8; simp at this; have := HM6.out; omega
          have hv8' : v8 = .slice (some ⟨g8, 0, none⟩) (m + 1) c8 := by rw [hv8, HM6.out]; rfl
          have hr8' : (Builtin.append_ #[TL, TL] TL #[.slice (some ⟨w7.heap.size, 0, none⟩) 1 1, .slice al m cl]).run Try.prog (w7.alloc (.cells #[.int .i64 k1, .int .i64 k2, .int .i64 yv] TR (0, 0))) = .ok v8 w8 := hr8
          clear hput hL7 hF7 hT7 Ha7 hsp7 hcl7 hR8 hb8 hn8 hm6 hv8 hcap8 hwl HL7 HB7 HR7 hr8
          subst hv8'
          go_upto_region 19 with (first | (at_builtin; refine wpList_append_run rfl (.tmp 96) (.tmp 97) TL TL rfl _ _ rfl rfl _ w8 hr8' ?_; clear hr8') | fail)
          by_cases hgt : c < m + 1
          · have dg1 : decide ((c : Int) < (m : Int) + 1) = true := decide_eq_true (by omega)
            have dg2 : decide (c < m + 1) = true := decide_eq_true hgt
            have hcc : c ≤ c8 := by omega
            have ic : 0 ≤ (c : Int) ∧ (c : Int) ≤ (c8 : Int) := by omega
            have HRT : Hid (Rw w8 B (.slice (some ⟨g8, 0, none⟩) c c8) (putL c l (k1, k2) yv)) := HR8.out.cut c (by rw [List.length_cons, ← HM6.out]; omega) (by rw [List.length_cons, ← HM6.out])
            have HQT : Hid (c = (putL c l (k1, k2) yv).length) := by
              unfold putL
              show c = _
              rw [List.length_take, List.length_cons, ← HM6.out]; omega
            obtain ⟨lT, hlT⟩ : ∃ lT, lT = putL c l (k1, k2) yv := ⟨_, rfl⟩
            rw [← hlT] at HRT HQT HL8
            clear hlT hgt HR8
            go_upto_region 26 with fail
            obtain ⟨aT, haT⟩ : ∃ aT : Option Addr, aT = some ⟨g8, 0, none⟩ := ⟨_, rfl⟩
            rw [← haT] at HRT ⊢
            clear haT
            have HSPT : Hid (RSP w8 aT lT) := by
              obtain ⟨a9, c9, e9, h9, -⟩ := HRT.out.form
              simp only [Value.slice.injEq] at e9
              rw [e9.1]; exact h9
            have hlt9 := HL8.out.len
            go_wp2_with fail
            refine (keys_any x c FT lT w8 HL8.out).mono ?_
            rintro _ wK ⟨gk, rfl, hgk, hOK, hbK⟩
            have HLK : Hid (Lru wK x c FT lT) := HL8.out.below hbK
            have HRK : Hid (Rw wK B (.slice aT c c8) lT) := HRT.out.below hbK
            have HSK : Hid (RSP wK aT lT) := HSPT.out.below hbK (Nat.le_refl _)
            have HBK : Hid (Below B W wK) := HB8.out.trans (hbK.mono (Nat.le_trans (Nat.le_of_eq HB.out) HB8.out.size))
            have HOK : Hid (OwnE wK gk (cellsE (lT.map (·.1)))) := hOK
            have HgK : Hid (gk < wK.heap.size) := OwnE.lt hOK
            rw [← HQT.out]
            clear hgk hOK hbK HL8 HRT HSPT HB8
            go_wp2_with fail
            refine (len_lru x c FT lT wK HLK.out).mono ?_
            rintro _ wL ⟨rfl, he⟩
            obtain rfl := he.symm
            rw [← HQT.out]
            have hq4 : c ≤ 4096 := by have := HQT.out; omega
            have hqq : ((c : Int) != (c : Int)) = false := by simp
            clear hlt9
            go_wp2_with fail
            go_loopw [15] (fun s15 wq => ∃ i : Nat, i ≤ c ∧ s15 = .int .i64 i ∧ Below wK.heap.size wK wq) (fun s15 _ => c - (intOf s15).toNat)
            case atStart => exact ⟨0, Nat.zero_le _, rfl, Below.refl _ _⟩
            case round =>
              obtain ⟨i, hi, rfl, hbq⟩ := hrel
              have HBQ : Hid (Below wK.heap.size wK wr) := hbq
              by_cases hiq : i < c
              · have hil : i < lT.length := by rw [← HQT.out]; exact hiq
                obtain ⟨z, hz⟩ : ∃ z, lT[i]? = some z := ⟨lT[i], List.getElem?_eq_getElem hil⟩
                have hkz : (lT.map (·.1))[i]? = some z.1 := by rw [List.getElem?_map, hz]; rfl
                have hnil : lT ≠ [] := fun e => by rw [e] at hil; simp at hil
                obtain ⟨t0, t1⟩ := (OwnE.at_ (l := lT.map (·.1)) (R := []) (by rw [List.append_nil]; exact HOK.out) hkz).below HBQ.out HgK.out
                obtain ⟨b, o, hat, hc⟩ : ∃ b o, aT = some ⟨b, o, none⟩ ∧ ∀ j u, (cellsR lT)[j]? = some u → wK.cell? ⟨b, o + j, none⟩ = some u := by
                  rcases HSK.out with h | h
                  · exact absurd h hnil
                  · exact h
                subst hat
                obtain ⟨y0, y1, y2⟩ := cellsR_get hz
                have u0 := hc _ _ y0
                have u1 := hc _ _ y1
                have hbK : b < wK.heap.size := World.block_lt_of_cell? wK _ u0
                have u0 := (HBQ.out.cell (p := ⟨b, o + i * 3, none⟩) hbK).trans u0
                have u1 := (HBQ.out.cell (p := ⟨b, o + (i * 3 + 1), none⟩) hbK).trans u1
                rw [← Nat.add_assoc] at u1
                have HE := eqIn_sp z.1 z.1 true (spEq_self z.1)
                have HF' := neq_sp z.1 z.1 false (by rw [spEq_self]; rfl)
                clear hil hz hkz hnil hc y0 y1 y2 hbK hbq
                go_wp2_with fail
                go_quiet (fail)
                go_wp2_with fail
                refine ⟨⟨i + 1, by omega, by go_num, below_drewN HBQ.out nq⟩, by simp only [intOf]; omega⟩
              · obtain rfl : c = i := by omega
                have HFIN : Hid (Rw wr B (.slice aT c c8) lT ∧ Lru wr x c FT lT ∧ Below B W wr) := ⟨HRK.out.below HBQ.out, HLK.out.below HBQ.out, HBK.out.trans (HBQ.out.mono (Nat.le_trans (Nat.le_of_eq HB.out) HBK.out.size))⟩
                clear hbq
                go_wp2_with fail
                go_roundw
                case rel => exact ⟨j + 1, _, lT, FT, by omega, by omega, rfl, by go_num, HFIN.out.1, HFIN.out.2.1, HFT.out, HFIN.out.2.2⟩
                case measure => simp only [intOf]; omega
          · have dg1 : decide ((c : Int) < (m : Int) + 1) = false := decide_eq_false (by omega)
            have dg2 : decide (c < m + 1) = false := decide_eq_false hgt
            have HRT : Hid (Rw w8 B (.slice (some ⟨g8, 0, none⟩) (m + 1) c8) (putL c l (k1, k2) yv)) := by
              unfold putL
              rw [List.take_of_length_le (by rw [List.length_cons, ← HM6.out]; omega)]
              exact HR8.out
            have HQT : Hid (m + 1 = (putL c l (k1, k2) yv).length) := by
              unfold putL
              show m + 1 = _
              rw [List.length_take, List.length_cons, ← HM6.out]; omega
            obtain ⟨lT, hlT⟩ : ∃ lT, lT = putL c l (k1, k2) yv := ⟨_, rfl⟩
            rw [← hlT] at HRT HQT HL8
            clear hlT hgt HR8
            go_upto_region 26 with fail
            obtain ⟨aT, haT⟩ : ∃ aT : Option Addr, aT = some ⟨g8, 0, none⟩ := ⟨_, rfl⟩
            rw [← haT] at HRT ⊢
            clear haT
            obtain ⟨qT, hqT⟩ : ∃ qT, qT = m + 1 := ⟨_, rfl⟩
            rw [← hqT] at HRT HQT ⊢
            clear hqT
            have HSPT : Hid (RSP w8 aT lT) := by
              obtain ⟨a9, c9, e9, h9, -⟩ := HRT.out.form
              simp only [Value.slice.injEq] at e9
              rw [e9.1]; exact h9
            have hlt9 := HL8.out.len
            go_wp2_with fail
            refine (keys_any x c FT lT w8 HL8.out).mono ?_
            rintro _ wK ⟨gk, rfl, hgk, hOK, hbK⟩
            have HLK : Hid (Lru wK x c FT lT) := HL8.out.below hbK
            have HRK : Hid (Rw wK B (.slice aT qT c8) lT) := HRT.out.below hbK
            have HSK : Hid (RSP wK aT lT) := HSPT.out.below hbK (Nat.le_refl _)
            have HBK : Hid (Below B W wK) := HB8.out.trans (hbK.mono (Nat.le_trans (Nat.le_of_eq HB.out) HB8.out.size))
            have HOK : Hid (OwnE wK gk (cellsE (lT.map (·.1)))) := hOK
            have HgK : Hid (gk < wK.heap.size) := OwnE.lt hOK
            rw [← HQT.out]
            clear hgk hOK hbK HL8 HRT HSPT HB8
            go_wp2_with fail
            refine (len_lru x c FT lT wK HLK.out).mono ?_
            rintro _ wL ⟨rfl, he⟩
            obtain rfl := he.symm
            rw [← HQT.out]
            have hq4 : qT ≤ 4096 := by have := HQT.out; omega
            have hqq : ((qT : Int) != (qT : Int)) = false := by simp
            clear hlt9
            go_wp2_with fail
            go_loopw [15] (fun s15 wq => ∃ i : Nat, i ≤ qT ∧ s15 = .int .i64 i ∧ Below wK.heap.size wK wq) (fun s15 _ => qT - (intOf s15).toNat)
            case atStart => exact ⟨0, Nat.zero_le _, rfl, Below.refl _ _⟩
            case round =>
              obtain ⟨i, hi, rfl, hbq⟩ := hrel
              have HBQ : Hid (Below wK.heap.size wK wr) := hbq
              by_cases hiq : i < qT
              · have hil : i < lT.length := by rw [← HQT.out]; exact hiq
                obtain ⟨z, hz⟩ : ∃ z, lT[i]? = some z := ⟨lT[i], List.getElem?_eq_getElem hil⟩
                have hkz : (lT.map (·.1))[i]? = some z.1 := by rw [List.getElem?_map, hz]; rfl
                have hnil : lT ≠ [] := fun e => by rw [e] at hil; simp at hil
                obtain ⟨t0, t1⟩ := (OwnE.at_ (l := lT.map (·.1)) (R := []) (by rw [List.append_nil]; exact HOK.out) hkz).below HBQ.out HgK.out
                obtain ⟨b, o, hat, hc⟩ : ∃ b o, aT = some ⟨b, o, none⟩ ∧ ∀ j u, (cellsR lT)[j]? = some u → wK.cell? ⟨b, o + j, none⟩ = some u := by
                  rcases HSK.out with h | h
                  · exact absurd h hnil
                  · exact h
                subst hat
                obtain ⟨y0, y1, y2⟩ := cellsR_get hz
                have u0 := hc _ _ y0
                have u1 := hc _ _ y1
                have hbK : b < wK.heap.size := World.block_lt_of_cell? wK _ u0
                have u0 := (HBQ.out.cell (p := ⟨b, o + i * 3, none⟩) hbK).trans u0
                have u1 := (HBQ.out.cell (p := ⟨b, o + (i * 3 + 1), none⟩) hbK).trans u1
                rw [← Nat.add_assoc] at u1
                have HE := eqIn_sp z.1 z.1 true (spEq_self z.1)
                have HF' := neq_sp z.1 z.1 false (by rw [spEq_self]; rfl)
                clear hil hz hkz hnil hc y0 y1 y2 hbK hbq
                go_wp2_with fail
                go_quiet (fail)
                go_wp2_with fail
                refine ⟨⟨i + 1, by omega, by go_num, below_drewN HBQ.out nq⟩, by simp only [intOf]; omega⟩
              · obtain rfl : qT = i := by omega
                have HFIN : Hid (Rw wr B (.slice aT qT c8) lT ∧ Lru wr x c FT lT ∧ Below B W wr) := ⟨HRK.out.below HBQ.out, HLK.out.below HBQ.out, HBK.out.trans (HBQ.out.mono (Nat.le_trans (Nat.le_of_eq HB.out) HBK.out.size))⟩
                clear hbq
                go_wp2_with fail
                go_roundw
                case rel => exact ⟨j + 1, _, lT, FT, by omega, by omega, rfl, by go_num, HFIN.out.1, HFIN.out.2.1, HFT.out, HFIN.out.2.2⟩
                case measure => simp only [intOf]; omega
        | false =>
          have hy : y.put = false := hyp
          rw [hy] at Ha6
          have HA6 : Hid _ := Ha6
          have q0 := (cell_of_block Ha6 (i := 0)).trans rfl
          have q1 := (cell_of_block Ha6 (i := 1)).trans rfl
          have q2 := (cell_of_block Ha6 (i := 2)).trans rfl
          clear hy hyp Ha6
          go_wp2_with fail
          have hget := get_any (k1, k2) (by rw [HKK.out]; exact HKW.out) x c F l w3 HL6.out
          unfold kv at hget
          rw [HE6.out] at hget
          refine hget.mono ?_
          rintro _ w7 ⟨rfl, hL7, hT7⟩
          have HL7 : Hid (Lru w7 x c F (getL l (k1, k2))) := hL7
          have HB7 : Hid (Below B W w7) := (HBr.out.trans (HB6.out.mono HS.out)).trans (Tu.belowN hT7 HF.out (Nat.le_trans HS.out HB6.out.size))
          have HR7 : Hid (Rw w7 B (.slice al m cl) (without (k1, k2) l)) := HR6.out.tu hT7 (HL6.out.apartR HR6.out)
          have Hz7 := (hT7.block Z (Array.getElem?_eq_some_iff.1 HZ6.out).1 (HL6.out.apart HZ6.out (by decide) (by decide))).trans HZ6.out
          have hgl : getL l (k1, k2) = l := getL_none HE6.out
          have HL8 : Hid (Lru w7 x c F l) := by rw [← hgl]; exact HL7.out
          have HRT : Hid (Rw w7 B (.slice al m cl) l) := by have := HR7.out; rw [HE5.out] at this; exact this
          clear hget hL7 hT7 Hz7 HL7 HR7 hgl
          simp only [Option.getD_none, Option.isSome_none]
          go_upto_region 26 with fail
          obtain ⟨lT, hlT⟩ : ∃ lT, lT = l := ⟨_, rfl⟩
          rw [← hlT] at HRT HL8
          have HQT : Hid (m = lT.length) := by rw [hlT]; exact HM.out
          clear hlT
          have HSPT : Hid (RSP w7 al lT) := by
            obtain ⟨a9, c9, e9, h9, -⟩ := HRT.out.form
            simp only [Value.slice.injEq] at e9
            rw [e9.1]; exact h9
          have hlt9 := HL8.out.len
          go_wp2_with fail
          refine (keys_any x c F lT w7 HL8.out).mono ?_
          rintro _ wK ⟨gk, rfl, hgk, hOK, hbK⟩
          have HLK : Hid (Lru wK x c F lT) := HL8.out.below hbK
          have HRK : Hid (Rw wK B (.slice al m cl) lT) := HRT.out.below hbK
          have HSK : Hid (RSP wK al lT) := HSPT.out.below hbK (Nat.le_refl _)
          have HBK : Hid (Below B W wK) := HB7.out.trans (hbK.mono (Nat.le_trans (Nat.le_of_eq HB.out) HB7.out.size))
          have HOK : Hid (OwnE wK gk (cellsE (lT.map (·.1)))) := hOK
          have HgK : Hid (gk < wK.heap.size) := OwnE.lt hOK
          rw [← HQT.out]
          clear hgk hOK hbK HL8 HRT HSPT HB7
          go_wp2_with fail
          refine (len_lru x c F lT wK HLK.out).mono ?_
          rintro _ wL ⟨rfl, he⟩
          obtain rfl := he.symm
          rw [← HQT.out]
          have hq4 : m ≤ 4096 := by have := HQT.out; omega
          have hqq : ((m : Int) != (m : Int)) = false := by simp
          clear hlt9
          go_wp2_with fail
          go_loopw [15] (fun s15 wq => ∃ i : Nat, i ≤ m ∧ s15 = .int .i64 i ∧ Below wK.heap.size wK wq) (fun s15 _ => m - (intOf s15).toNat)
          case atStart => exact ⟨0, Nat.zero_le _, rfl, Below.refl _ _⟩
          case round =>
            obtain ⟨i, hi, rfl, hbq⟩ := hrel
            have HBQ : Hid (Below wK.heap.size wK wr) := hbq
            by_cases hiq : i < m
            · have hil : i < lT.length := by rw [← HQT.out]; exact hiq
              obtain ⟨z, hz⟩ : ∃ z, lT[i]? = some z := ⟨lT[i], List.getElem?_eq_getElem hil⟩
              have hkz : (lT.map (·.1))[i]? = some z.1 := by rw [List.getElem?_map, hz]; rfl
              have hnil : lT ≠ [] := fun e => by rw [e] at hil; simp at hil
              obtain ⟨t0, t1⟩ := (OwnE.at_ (l := lT.map (·.1)) (R := []) (by rw [List.append_nil]; exact HOK.out) hkz).below HBQ.out HgK.out
              obtain ⟨b, o, hat, hc⟩ : ∃ b o, al = some ⟨b, o, none⟩ ∧ ∀ j u, (cellsR lT)[j]? = some u → wK.cell? ⟨b, o + j, none⟩ = some u := by
                rcases HSK.out with h | h
                · exact absurd h hnil
                · exact h
              subst hat
              obtain ⟨y0, y1, y2⟩ := cellsR_get hz
              have u0 := hc _ _ y0
              have u1 := hc _ _ y1
              have hbK : b < wK.heap.size := World.block_lt_of_cell? wK _ u0
              have u0 := (HBQ.out.cell (p := ⟨b, o + i * 3, none⟩) hbK).trans u0
              have u1 := (HBQ.out.cell (p := ⟨b, o + (i * 3 + 1), none⟩) hbK).trans u1
              rw [← Nat.add_assoc] at u1
              have HE := eqIn_sp z.1 z.1 true (spEq_self z.1)
              have HF' := neq_sp z.1 z.1 false (by rw [spEq_self]; rfl)
              clear hil hz hkz hnil hc y0 y1 y2 hbK hbq
              go_wp2_with fail
              go_quiet (fail)
              go_wp2_with fail
              refine ⟨⟨i + 1, by omega, by go_num, below_drewN HBQ.out nq⟩, by simp only [intOf]; omega⟩
            · obtain rfl : m = i := by omega
              have HFIN : Hid (Rw wr B (.slice al m cl) lT ∧ Lru wr x c F lT ∧ Below B W wr) := ⟨HRK.out.below HBQ.out, HLK.out.below HBQ.out, HBK.out.trans (HBQ.out.mono (Nat.le_trans (Nat.le_of_eq HB.out) HBK.out.size))⟩
              clear hbq
              go_wp2_with fail
              go_roundw
              case rel => exact ⟨j + 1, _, lT, F, by omega, by omega, rfl, by go_num, HFIN.out.1, HFIN.out.2.1, HF.out, HFIN.out.2.2⟩
              case measure => simp only [intOf]; omega
    · have hov : ¬ (j < n ∧ j < 100) := hlt
      clear hlt
      by_cases hjn2 : j < n
      · have dj1 : decide ((j : Int) < (n : Int)) = true := decide_eq_true (by omega)
        have dj2 : decide (j < n) = true := decide_eq_true (by omega)
        have dj3 : decide ((j : Int) < 100) = false := decide_eq_false (by omega)
        have dj4 : decide (j < 100) = false := decide_eq_false (by omega)
        have HBr : Hid (Below B W wr) := hBr
        clear hov hR hL hF hBr
        go_wp2_with fail
        refine (T.known_any wr).mono ?_
        rintro _ wz ⟨rfl, hbz⟩
        go_wp2_with fail
        go_ret
        exact ⟨rfl, HBr.out.trans (hbz.mono (Nat.le_trans (Nat.le_of_eq HB.out) HBr.out.size))⟩
      · have dj1 : decide ((j : Int) < (n : Int)) = false := decide_eq_false (by omega)
        have dj2 : decide (j < n) = false := decide_eq_false (by omega)
        have HBr : Hid (Below B W wr) := hBr
        clear hov hR hL hF hBr
        go_wp2_with fail
        refine (T.known_any wr).mono ?_
        rintro _ wz ⟨rfl, hbz⟩
        go_wp2_with fail
        go_ret
        exact ⟨rfl, HBr.out.trans (hbz.mono (Nat.le_trans (Nat.le_of_eq HB.out) HBr.out.size))⟩
end Go.Proofs.Ytafhgigkhbcnjaa.LU.K
