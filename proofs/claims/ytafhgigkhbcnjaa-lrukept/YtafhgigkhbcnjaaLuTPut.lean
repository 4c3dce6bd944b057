/- lru's Put: its contract. -/
import Derived.Test.YtafhgigkhbcnjaaLuTDrop
namespace Go.Proofs.Ytafhgigkhbcnjaa.LU.T
open Go.RowKit Go.Joins Go.Sort Go.Maps
set_option linter.unusedVariables false
set_option linter.unusedSimpArgs false
set_option maxRecDepth 100000
theorem mem_eq {b N : Nat} {bl : List Nat} (e : b = N) (h : b ∈ bl) : N ∈ bl := by subst e; exact h
theorem rg_last {p q : Nat → Nat} {kn e : Nat} {l1 : List Nat} (h : Rg p q kn (l1 ++ [e])) : p kn = e := by
  obtain ⟨A, a, b, B, hA, hB, _, _, _, _, h2, _⟩ := rg_around (l2 := []) h
  have : kn = b := by
    rw [List.nil_append] at hB
    injection hB
  rw [this]; exact h2
theorem Tu.setNew {F : Nat → Prop} {x y : World} (h : Tu F x y) {c o : Nat} (v : Value) (hc : x.heap.size ≤ c) : Tu F x (y.setCell ⟨c, o, none⟩ v) :=
  ⟨h.os, h.tape, h.output, by simpa using h.size, fun i hi h1 => (Below.heap_setCell y ⟨c, o, none⟩ v i (by rintro rfl; exact absurd hi (Nat.not_lt.2 hc))).trans (h.block i hi h1)⟩
/-- A new one goes first. -/
theorem Ca.new {w w' : World} {x c mb kn N : Nat} {bl : List Nat} {k : κ} {v : Int} {key : Nat → κ} {val : Nat → Int} {f : κ → Option Nat} (h : Ca w x c mb kn bl key val f) (hle : bl.length ≤ c) (hk : Kw k) (hf : f k = none)
    (h1 : CaAt w' x c mb kn) (h2 : MapP w' mb (bl.length + 1) (fun y => if y = k then some N else f y)) {p q : Nat → Nat} (h3 : Es w' (N :: kn :: bl) (upd key N k) (upd val N v) p q) (h4 : Rg p q kn (N :: bl)) (hN : N ∉ kn :: bl) : Ca w' x c mb kn (N :: bl) (upd key N k) (upd val N v) (fun y => if y = k then some N else f y) := by
  have hn1 : N ≠ kn := fun e => hN (by simp [e])
  have hn2 : N ∉ bl := fun e => hN (by simp [e])
  have hr := h.room
  refine ⟨h1, ⟨p, q, h3.sub fun i hi => ?_, h4⟩, ?_, h2, fun y b => ?_, fun b hb => ?_, by simp; omega, h.room⟩
  · simp at hi ⊢
    rcases hi with h | h | h
    · exact .inr (.inl h)
    · exact .inl h
    · exact .inr (.inr h)
  · refine List.nodup_cons.2 ⟨fun hi => ?_, List.nodup_cons.2 ⟨hn2, (List.nodup_cons.1 h.nd).2⟩⟩
    rcases List.mem_cons.1 hi with e | hi
    · exact hn1 e.symm
    · exact (List.nodup_cons.1 h.nd).1 hi
  · show (if y = k then some N else f y) = some b ↔ _
    by_cases hy : y = k
    · rw [if_pos hy]
      constructor
      · intro e
        obtain rfl := Option.some.inj e
        exact ⟨by simp, by rw [upd_same]; exact hy.symm⟩
      · rintro ⟨hb, hkb⟩
        rcases List.mem_cons.1 hb with e | hb
        · rw [e]
        · rw [upd_other _ _ (fun e => hn2 (mem_eq e hb))] at hkb
          have := (h.tells y b).2 ⟨hb, hkb⟩
          rw [hy, hf] at this
          cases this
    · rw [if_neg hy, h.tells y b]
      constructor
      · rintro ⟨hb, hkb⟩
        exact ⟨by simp [hb], by rw [upd_other _ _ (fun e => hn2 (mem_eq e hb))]; exact hkb⟩
      · rintro ⟨hb, hkb⟩
        rcases List.mem_cons.1 hb with e | hb
        · rw [e, upd_same] at hkb
          exact absurd hkb.symm hy
        · rw [upd_other _ _ (fun e => hn2 (mem_eq e hb))] at hkb
          exact ⟨hb, hkb⟩
  · by_cases e : b = N
    · rw [e, upd_same]; exact hk
    · rw [upd_other _ _ e]
      exact h.kw b ((List.mem_cons.1 hb).resolve_left e)
theorem rows_upd {key : Nat → κ} {val : Nat → Int} {bl : List Nat} {N : Nat} {k : κ} {v : Int} (hN : N ∉ bl) : rowsOf (upd key N k) (upd val N v) (N :: bl) = (k, v) :: rowsOf key val bl := by
  unfold rowsOf
  rw [List.map_cons, upd_same, upd_same]
  congr 1
  refine List.map_congr_left fun b hb => ?_
  rw [upd_other _ _ (fun e => hN (mem_eq e hb)), upd_other _ _ (fun e => hN (mem_eq e hb))]
theorem rows_upv {key : Nat → κ} {val : Nat → Int} {bl : List Nat} {N : Nat} {v : Int} (hN : N ∉ bl) : rowsOf key (upd val N v) (N :: bl) = (key N, v) :: rowsOf key val bl := by
  unfold rowsOf
  rw [List.map_cons, upd_same]
  congr 1
  refine List.map_congr_left fun b hb => ?_
  rw [upd_other _ _ (fun e => hN (mem_eq e hb))]
set_option maxHeartbeats 4000000 in
theorem put_old (k : κ) (v : Int) (hk : Kw k) (x c mb kn : Nat) (l1 l2 : List Nat) (e : Nat) (key : Nat → κ) (val : Nat → Int) (f : κ → Option Nat) (W : World) (h : Ca W x c mb kn (l1 ++ e :: l2) key val f) (hke : key e = k) (hle : (l1 ++ e :: l2).length ≤ c) :
    Calls Try.prog 8 #[.pointer (some ⟨x, 0, none⟩), kv k, .int .i64 v] W fun ee w' => ee = .returned (.tuple #[]) ∧ Ca w' x c mb kn (e :: (l1 ++ l2)) key (upd val e v) f ∧ Tu (InC mb (kn :: (l1 ++ e :: l2))) W w' := by
  have HL := like_any k
  have hfe : f k = some e := (h.tells k e).2 ⟨by simp, hke⟩
  have HG : ∀ w1, Below W.heap.size W w1 → (Instr.lookup 61 (.map (some mb)) (kv k) false).run Try.prog w1 = .ok (pv (some e)) w1 := fun w1 hb => by
    have := (h.below hb).map.get hk
    rw [hfe] at this
    exact this
  have hb0 := (Below.refl W.heap.size W).alloc (Nat.le_refl _) (.cells #[.string k] 9)
  have HC : Hid (Ca W x c mb kn (l1 ++ e :: l2) key val f) := h
  have HLE : Hid ((l1 ++ e :: l2).length ≤ c) := hle
  clear h hk hfe hke hle
  unfold kv at HL HG ⊢
  unfold pv at HG
  go_enter Try.func8, Try.ntmps8
  go_wp2_with fail
  refine (HL W).mono ?_
  rintro e0 w1 ⟨rfl, hb2⟩
  have O1 := (HC.out.below hb2).own
  unfold CaAt at O1
  have c4 := (cell_of_block O1 (i := 1)).trans rfl
  clear O1 hb0
  have HG1 := HG w1 hb2
  clear HG HL
  go_wp2_with fail
  obtain ⟨w2, hw2⟩ : ∃ w2, w2 = w1 := ⟨_, rfl⟩
  have hb3 : Below W.heap.size W w2 := by rw [hw2]; exact hb2
  rw [← hw2]
  clear hb2 HG1 c4 hw2
  have C1 := HC.out.below hb3
  obtain ⟨p, q, L1, R1⟩ := C1.es
  have he : e ∈ l1 ++ e :: l2 := by simp
  have hm := rg_mem R1 he
  refine (cut_any _ key val p q e w2 L1 (List.mem_cons_of_mem _ he) hm.1 hm.2).mono ?_
  rintro _ w3 ⟨rfl, L3, T3⟩
  have HR3 : Hid (Rg (upd p (q e) (p e)) (upd q (p e) (q e)) kn (l1 ++ l2)) := rg_cut C1.nd R1
  have HO3 : Hid (CaAt w3 x c mb kn) := (T3.block x C1.own.lt (fun hi => C1.xe hi rfl)).trans C1.own
  have HM3 : Hid (w3.heap[mb]? = w2.heap[mb]?) := T3.block mb C1.map.lt (fun hi => C1.mbe hi rfl)
  have HS3 : Hid (w2.heap.size ≤ w3.heap.size) := T3.size
  have HT3 : Hid (Tu (InC mb (kn :: (l1 ++ e :: l2))) W w3) := (Tu.of_below hb3).trans (T3.widen fun i hi => .inr hi)
  have HC1 : Hid (Ca w2 x c mb kn (l1 ++ e :: l2) key val f) := C1
  have L4 := L3.setV e v
  have f1 := L3.free (List.mem_cons_of_mem kn he) 1
  have i1 := L3.value (List.mem_cons_of_mem kn he)
  have hee : e ∈ kn :: (l1 ++ e :: l2) := List.mem_cons_of_mem _ he
  have HT4 : Hid (Tu (InC mb (kn :: (l1 ++ e :: l2))) W (w3.setCell ⟨e, 1, none⟩ (.int .i64 v))) := HT3.out.set (c := e) (o := 1) (.int .i64 v) (.inr hee)
  have HO4 : Hid (CaAt (w3.setCell ⟨e, 1, none⟩ (.int .i64 v)) x c mb kn) := (Below.heap_setCell w3 ⟨e, 1, none⟩ _ x (fun h => C1.xe hee h.symm)).trans HO3.out
  have HM4 : Hid ((w3.setCell ⟨e, 1, none⟩ (.int .i64 v)).heap[mb]? = w2.heap[mb]?) := (Below.heap_setCell w3 ⟨e, 1, none⟩ _ mb (fun h => C1.mbe hee h.symm)).trans HM3.out
  have HS4 : Hid (w2.heap.size ≤ (w3.setCell ⟨e, 1, none⟩ (.int .i64 v)).heap.size) := by simpa [Hid] using T3.size
  have HL4 : Hid (Es (w3.setCell ⟨e, 1, none⟩ (.int .i64 v)) (kn :: (l1 ++ e :: l2)) key (upd val e v) (upd p (q e) (p e)) (upd q (p e) (q e))) := L4
  clear L3 T3 L1 R1 C1 hm hb3 L4 he hee HO3 HM3 HS3 HT3
  go_upto_region 7 with fail
  obtain ⟨w4, hw4⟩ : ∃ w4, w4 = w3.setCell ⟨e, 1, none⟩ (.int .i64 v) := ⟨_, rfl⟩
  rw [← hw4] at HT4 HO4 HM4 HS4 HL4 ⊢
  clear hw4 f1 i1
  have O4 := HO4.out
  unfold CaAt at O4
  have c2 := cell_of_block O4 (i := 2)
  clear O4
  go_wp2_with fail
  have R4 := rg_link (move_nd HC1.out.nd) HR3.out
  have hq : upd q (p e) (q e) kn ∈ kn :: (l1 ++ e :: l2) := by
    rcases List.mem_cons.1 R4.2 with h' | h'
    · rw [h']; exact List.mem_cons_self
    · exact List.mem_cons_of_mem _ (mem_move.1 (List.mem_cons_of_mem _ h'))
  refine (link_any _ key _ _ _ kn e w4 HL4.out List.mem_cons_self (List.mem_cons_of_mem _ (by simp)) hq).mono ?_
  rintro _ w5 ⟨rfl, L5, T5⟩
  have O5 : CaAt w5 x c mb kn := (T5.block x HO4.out.lt (fun hi => HC1.out.xe hi rfl)).trans HO4.out
  have HT5 : Hid (Tu (InC mb (kn :: (l1 ++ e :: l2))) W w5) := HT4.out.trans (T5.widen fun i hi => .inr hi)
  have C5 : Ca w5 x c mb kn (e :: (l1 ++ l2)) key (upd val e v) f := HC1.out.moved O5 ((T5.block mb (Nat.lt_of_lt_of_le HC1.out.map.lt HS4.out) (fun hi => HC1.out.mbe hi rfl)).trans HM4.out) L5 R4.1
  have HC5 : Hid (Ca w5 x c mb kn (e :: (l1 ++ l2)) key (upd val e v) f) := C5
  clear L5 T5 R4 hq c2
  unfold CaAt at O5
  have k0 := cell_regrown ((cell_of_block O5 (i := 0)).trans rfl)
  have k1 := cell_regrown ((cell_of_block O5 (i := 1)).trans rfl)
  have HN : ∀ d os, (Builtin.len_ #[61] 3 #[.map (some mb)]).run Try.prog (grow (redrawn w5 d) os) = .ok (.int .i64 (e :: (l1 ++ l2)).length) (grow (redrawn w5 d) os) := fun d os => (C5.below (below_regrown w5 d os)).map.len 3
  have hlen : ((e :: (l1 ++ l2)).length : Int) ≤ c := by have := HLE.out; simp at this ⊢; omega
  obtain ⟨n, hn⟩ : ∃ n, n = (e :: (l1 ++ l2)).length := ⟨_, rfl⟩
  rw [← hn] at HN hlen
  have d1 : decide ((c : Int) < (n : Int)) = false := decide_eq_false (by omega)
  have d2 : decide (c < n) = false := decide_eq_false (by omega)
  clear hn C5 O5 hlen
  go_upto_region 8 with fail
  refine wp_region_quiet_below (by kernel_rfl) (by kernel_rfl) ?_
  repeat (go_big_quiet_step (fail))
  refine wpQuiet_nil ?_
  intro w6 hw'
  have hb6 : Below w5.heap.size w5 w6 := by
    obtain ⟨⟨dq, osq⟩, rfl⟩ := hw'
    exact below_regrown _ _ _
  clear hw' k0 k1 HN
  go_wp2_with fail
  go_end0
  exact ⟨rfl, HC5.out.below hb6, HT5.out.trans (Tu.of_below hb6)⟩
set_option maxHeartbeats 4000000 in
theorem put_new (k : κ) (v : Int) (hk : Kw k) (x c mb kn : Nat) (bl : List Nat) (key : Nat → κ) (val : Nat → Int) (f : κ → Option Nat) (W : World) (h : Ca W x c mb kn bl key val f) (hf : f k = none) (hle : bl.length ≤ c) :
    Calls Try.prog 8 #[.pointer (some ⟨x, 0, none⟩), kv k, .int .i64 v] W fun ee w' => ee = .returned (.tuple #[]) ∧ (∃ N l1 f', W.heap.size ≤ N ∧ N < w'.heap.size ∧ Ca w' x c mb kn l1 (upd key N k) (upd val N v) f' ∧ l1 = (N :: bl).take c) ∧ Tu (InC mb (kn :: bl)) W w' := by
  have HL := like_any k
  have HG : ∀ w1, Below W.heap.size W w1 → (Instr.lookup 61 (.map (some mb)) (kv k) false).run Try.prog w1 = .ok (pv none) w1 := fun w1 hb => by
    have := (h.below hb).map.get hk
    rw [hf] at this
    exact this
  have hb0 := (Below.refl W.heap.size W).alloc (Nat.le_refl _) (.cells #[.string k] 9)
  have HC : Hid (Ca W x c mb kn bl key val f) := h
  have HLE : Hid (bl.length ≤ c) := hle
  have HF : Hid (f k = none) := hf
  have HK : Hid (Kw k) := hk
  clear h hk hf hle
  unfold kv at HL HG ⊢
  unfold pv at HG
  go_enter Try.func8, Try.ntmps8
  go_wp2_with fail
  refine (HL W).mono ?_
  rintro e0 w1 ⟨rfl, hb2⟩
  have O1 := (HC.out.below hb2).own
  unfold CaAt at O1
  have c4 := (cell_of_block O1 (i := 1)).trans rfl
  clear O1 hb0
  have HG1 := HG w1 hb2
  clear HG HL
  go_upto_region 4 with fail
  obtain ⟨w2, hw2⟩ : ∃ w2, w2 = w1 := ⟨_, rfl⟩
  have hb3 : Below W.heap.size W w2 := by rw [hw2]; exact hb2
  rw [← hw2]
  clear hb2 HG1 c4 hw2
  obtain ⟨N, hN⟩ : ∃ N, N = w2.heap.size := ⟨_, rfl⟩
  obtain ⟨w3, hw3⟩ : ∃ w3, w3 = w2.alloc (.cells #[.string k, .int .i64 0, .pointer none, .pointer none] 60 (0, 0)) := ⟨_, rfl⟩
  have hb4 : Below W.heap.size W w3 := by rw [hw3]; exact hb3.alloc hb3.size _
  have h3N : w3.heap[N]? = some (.cells #[.string k, .int .i64 0, .pointer none, .pointer none] 60 (0, 0)) := by rw [hw3, hN]; exact heap_alloc_new w2 _
  have HWN : Hid (W.heap.size ≤ N) := by rw [hN]; exact hb3.size
  have HNN : Hid (N ∉ kn :: bl) := by
    intro hi
    obtain ⟨p, q, L0, _⟩ := HC.out.es
    have := L0.lt hi
    have := HWN.out
    omega
  have HNx : Hid (N ≠ x) := by
    have := HC.out.own.lt
    have := HWN.out
    intro e; omega
  have HNm : Hid (N ≠ mb) := by
    have := HC.out.map.lt
    have := HWN.out
    intro e; omega
  rw [← hN, ← hw3]
  clear hN hw3 hb3
  have C3 := HC.out.below hb4
  obtain ⟨p, q, L3, R3⟩ := C3.es
  have HL3 : Hid (Es w3 (kn :: bl) key val p q) := L3
  have HR3 : Hid (Rg p q kn bl) := R3
  have HC3 : Hid (Ca w3 x c mb kn bl key val f) := C3
  have HN3 : Hid (w3.heap[N]? = some (.cells #[.string k, .int .i64 0, .pointer none, .pointer none] 60 (0, 0))) := h3N
  have HT3 : Hid (Tu (InC mb (kn :: bl)) W w3) := Tu.of_below hb4
  have O3 := C3.own
  unfold CaAt at O3
  have c4 := (cell_of_block O3 (i := 1)).trans rfl
  clear L3 R3 O3 h3N C3 hb4
  obtain ⟨w3', hw3'⟩ : ∃ w3', w3' = w3 := ⟨_, rfl⟩
  have hb : Below w3.heap.size w3 w3' := by rw [hw3']; exact Below.refl _ _
  rw [← hw3'] at c4 ⊢
  clear hw3'
  have M3 : MapP w3' mb bl.length f := HC3.out.map.kept (hb.block mb HC3.out.map.lt)
  have HL3' : Hid (Es w3' (kn :: bl) key val p q) := HL3.out.below hb
  have HO3' : Hid (CaAt w3' x c mb kn) := (hb.block x HC3.out.own.lt).trans HC3.out.own
  have HN3' : Hid (w3'.heap[N]? = some (.cells #[.string k, .int .i64 0, .pointer none, .pointer none] 60 (0, 0))) := (hb.block N (Array.getElem?_eq_some_iff.1 HN3.out).1).trans HN3.out
  have HT3' : Hid (Tu (InC mb (kn :: bl)) W w3') := HT3.out.trans (Tu.of_below hb)
  have hroom : bl.length < maxLen := by have := HC.out.le; unfold maxLen; omega
  have hfk := HF.out
  have hkw := HK.out
  clear hb HT3
  go_upto_region 6 with (first | (at_mapUpdate; refine wpList_put _ rfl _ _ _ rfl rfl M3 hroom k hkw hfk N rfl rfl ?_; intro w4 M4 G4) | fail)
  have h4N : w4.heap[N]? = some (.cells #[.string k, .int .i64 0, .pointer none, .pointer none] 60 (0, 0)) := (G4.block N (Array.getElem?_eq_some_iff.1 HN3'.out).1 (fun h => HNm.out (Option.some.inj h))).trans HN3'.out
  have HM4 : Hid (MapP w4 mb (bl.length + 1) (fun y => if y = k then some N else f y)) := M4
  have HL4 : Hid (Es w4 (kn :: bl) key val p q) := HL3'.out.kept fun i hi => G4.block i (HL3'.out.lt hi) (fun h => HC.out.mbe hi (Option.some.inj h))
  have HO4 : Hid (CaAt w4 x c mb kn) := (G4.block x HO3'.out.lt (fun h => HC.out.xmb (Option.some.inj h))).trans HO3'.out
  have HT4 : Hid (Tu (InC mb (kn :: bl)) W w4) := HT3'.out.grown G4 (.inl rfl)
  have HN4 : Hid (w4.heap[N]? = some (.cells #[.string k, .int .i64 0, .pointer none, .pointer none] 60 (0, 0))) := h4N
  have f1 := unfrozen_of_block h4N 1
  have i1 := (cell_of_block h4N (i := 1)).trans rfl
  clear h4N M4 G4 M3 hroom hfk hkw HT3' HN3' HO3' HL3' HN3 HC3 HL3
  go_upto_region 7 with fail
  obtain ⟨w5, hw5⟩ : ∃ w5, w5 = w4.setCell ⟨N, 1, none⟩ (.int .i64 v) := ⟨_, rfl⟩
  have h5N : w5.heap[N]? = some (.cells #[.string k, .int .i64 v, .pointer none, .pointer none] 60 (0, 0)) := by rw [hw5]; exact (block_setCell HN4.out _).trans rfl
  have L5 : Es w5 (kn :: bl) key val p q := by rw [hw5]; exact HL4.out.other _ (fun i hi e => HNN.out (e ▸ hi))
  have M5 : MapP w5 mb (bl.length + 1) (fun y => if y = k then some N else f y) := HM4.out.kept (by rw [hw5]; exact Below.heap_setCell w4 ⟨N, 1, none⟩ _ mb (fun e => HNm.out e.symm))
  have O5 : CaAt w5 x c mb kn := by rw [hw5]; exact (Below.heap_setCell w4 ⟨N, 1, none⟩ _ x (fun e => HNx.out e.symm)).trans HO4.out
  have HT5 : Hid (Tu (InC mb (kn :: bl)) W w5) := by rw [hw5]; exact HT4.out.setNew _ HWN.out
  rw [← hw5]
  clear hw5 f1 i1 HT4 HO4 HL4 HM4 HN4
  have HL5 : Hid (Es w5 (kn :: bl) key val p q) := L5
  have HM5 : Hid (MapP w5 mb (bl.length + 1) (fun y => if y = k then some N else f y)) := M5
  have HO5 : Hid (CaAt w5 x c mb kn) := O5
  have H5N : Hid (w5.heap[N]? = some (.cells #[.string k, .int .i64 v, .pointer none, .pointer none] 60 (0, 0))) := h5N
  unfold CaAt at O5
  have c2 := (cell_of_block O5 (i := 2)).trans rfl
  clear O5 L5 M5 h5N c4
  go_wp2_with fail
  have hnd : (kn :: N :: bl).Nodup := by
    have h1 := List.nodup_cons.1 HC.out.nd
    refine List.nodup_cons.2 ⟨fun hi => ?_, List.nodup_cons.2 ⟨fun hi => HNN.out (List.mem_cons_of_mem _ hi), h1.2⟩⟩
    rcases List.mem_cons.1 hi with e | hi
    · exact HNN.out (by rw [← e]; simp)
    · exact h1.1 hi
  have R5 := rg_link hnd HR3.out
  refine (link_new _ key val p q kn N k v _ _ w5 HL5.out List.mem_cons_self HNN.out H5N.out R5.2).mono ?_
  rintro _ w6 ⟨rfl, L6, T6⟩
  have hx6 : x ∉ N :: kn :: bl := fun hi => by
    rcases List.mem_cons.1 hi with e | hi
    · exact HNx.out e.symm
    · exact HC.out.xe hi rfl
  have hm6 : mb ∉ N :: kn :: bl := fun hi => by
    rcases List.mem_cons.1 hi with e | hi
    · exact HNm.out e.symm
    · exact HC.out.mbe hi rfl
  have O6 : CaAt w6 x c mb kn := (T6.block x HO5.out.lt hx6).trans HO5.out
  have C6 := HC.out.new HLE.out HK.out HF.out (v := v) O6 (HM5.out.kept (T6.block mb HM5.out.lt hm6)) L6 R5.1 HNN.out
  have HC6 : Hid (Ca w6 x c mb kn (N :: bl) (upd key N k) (upd val N v) (fun y => if y = k then some N else f y)) := C6
  have HT6 : Hid (Tu (InC mb (kn :: bl)) W w6) := HT5.out.trans' T6 fun i hi => by
    rcases List.mem_cons.1 hi with e | hi
    · exact .inr (by rw [e]; exact HWN.out)
    · exact .inl (.inr hi)
  have HN6 : Hid (N < w6.heap.size) := L6.lt List.mem_cons_self
  clear L6 T6 hx6 hm6 R5 hnd c2
  unfold CaAt at O6
  have k0 := cell_regrown ((cell_of_block O6 (i := 0)).trans rfl)
  have k1 := cell_regrown ((cell_of_block O6 (i := 1)).trans rfl)
  have HN : ∀ d os, (Builtin.len_ #[61] 3 #[.map (some mb)]).run Try.prog (grow (redrawn w6 d) os) = .ok (.int .i64 (N :: bl).length) (grow (redrawn w6 d) os) := fun d os => (C6.below (below_regrown w6 d os)).map.len 3
  obtain ⟨n, hn⟩ : ∃ n, n = (N :: bl).length := ⟨_, rfl⟩
  have HNl : Hid (n = (N :: bl).length) := hn
  rw [← hn] at HN
  clear hn C6 O6
  by_cases hcn : n ≤ c
  · have d1 : decide ((c : Int) < (n : Int)) = false := decide_eq_false (by omega)
    have d2 : decide (c < n) = false := decide_eq_false (by omega)
    have HCN : Hid (n ≤ c) := hcn
    clear hcn
    go_upto_region 8 with fail
    refine wp_region_quiet_below (by kernel_rfl) (by kernel_rfl) ?_
    repeat (go_big_quiet_step (fail))
    refine wpQuiet_nil ?_
    intro w7 hw'
    have hb6 : Below w6.heap.size w6 w7 := by
      obtain ⟨⟨dq, osq⟩, rfl⟩ := hw'
      exact below_regrown _ _ _
    clear hw' k0 k1 HN
    go_wp2_with fail
    refine bodyPost_end (results_none rfl _ _ _) rfl ⟨rfl, ⟨N, N :: bl, _, HWN.out, Nat.lt_of_lt_of_le HN6.out hb6.size, HC6.out.below hb6, ?_⟩, HT6.out.trans (Tu.of_below hb6)⟩
    rw [List.take_of_length_le (by rw [← HNl.out]; exact HCN.out)]
  · have d1 : decide ((c : Int) < (n : Int)) = true := decide_eq_true (by omega)
    have d2 : decide (c < n) = true := decide_eq_true (by omega)
    have HCN : Hid (¬ n ≤ c) := hcn
    clear hcn
    obtain ⟨l1, e, hl1⟩ : ∃ l1 e, N :: bl = l1 ++ [e] := ⟨(N :: bl).dropLast, (N :: bl).getLast (by simp), (List.dropLast_concat_getLast (by simp)).symm⟩
    go_upto_region 8 with fail
    refine wp_region_quiet_below (by kernel_rfl) (by kernel_rfl) ?_
    repeat (go_big_quiet_step (fail))
    refine wpQuiet_nil ?_
    intro w7 hw'
    have hb6 : Below w6.heap.size w6 w7 := by
      obtain ⟨⟨dq, osq⟩, rfl⟩ := hw'
      exact below_regrown _ _ _
    clear hw' k0 k1 HN
    have C7 := HC6.out.below hb6
    have HT7 : Hid (Tu (InC mb (kn :: bl)) W w7) := HT6.out.trans (Tu.of_below hb6)
    have HN7 : Hid (N < w7.heap.size) := Nat.lt_of_lt_of_le HN6.out hb6.size
    have HL1 : Hid (N :: bl = l1 ++ [e]) := hl1
    rw [hl1] at C7
    clear hl1
    obtain ⟨p7, q7, L7, R7⟩ := C7.es
    have c5 := L7.ahead (List.mem_cons_self)
    rw [rg_last R7] at c5
    have O7 := C7.own
    unfold CaAt at O7
    have c6 := (cell_of_block O7 (i := 2)).trans rfl
    have HC7 : Hid (Ca w7 x c mb kn (l1 ++ [e]) (upd key N k) (upd val N v) (fun y => if y = k then some N else f y)) := C7
    clear L7 R7 O7 C7 hb6
    go_wp2_with fail
    refine (drop_any x c mb kn l1 [] e _ _ _ w7 HC7.out).mono ?_
    rintro _ w8 ⟨rfl, ⟨f8, C8⟩, T8⟩
    rw [List.append_nil] at C8
    have HC8 : Hid (Ca w8 x c mb kn l1 (upd key N k) (upd val N v) f8) := C8
    have HT8 : Hid (Tu (InC mb (kn :: bl)) W w8) := HT7.out.trans' T8 fun i hi => by
      rcases hi with hi | hi
      · exact .inl (.inl hi)
      · rw [← HL1.out] at hi
        rcases List.mem_cons.1 hi with hi | hi
        · exact .inl (.inr (by rw [hi]; exact List.mem_cons_self))
        · rcases List.mem_cons.1 hi with hi | hi
          · exact .inr (by rw [hi]; exact HWN.out)
          · exact .inl (.inr (List.mem_cons_of_mem _ hi))
    have HN8 : Hid (N < w8.heap.size) := Nat.lt_of_lt_of_le HN7.out T8.size
    clear C8 T8 c5 c6
    go_wp2_with fail
    refine bodyPost_end (results_none rfl _ _ _) rfl ⟨rfl, ⟨N, l1, _, HWN.out, HN8.out, HC8.out, ?_⟩, HT8.out⟩
    have h1 := HNl.out
    have h2 := HCN.out
    have h3 := HLE.out
    rw [HL1.out] at h1 ⊢
    have h4 : (N :: bl).length = (l1 ++ [e]).length := by rw [HL1.out]
    simp at h1 h4
    rw [List.take_left' (by omega)]
/-- Put, of whatever is kept. -/
theorem put_any (k : κ) (v : Int) (hk : Kw k) (x c : Nat) (F : Nat → Prop) (l : List (κ × Int)) (W : World) (h : Lru W x c F l) :
    Calls Try.prog 8 #[.pointer (some ⟨x, 0, none⟩), kv k, .int .i64 v] W fun ee w' => ee = .returned (.tuple #[]) ∧ ∃ F', Lru w' x c F' (putL c l k v) ∧ (∀ i, F' i → F i ∨ W.heap.size ≤ i) ∧ Tu F W w' := by
  obtain ⟨mb, kn, bl, key, val, f, h1, rfl, g1, g2, g3, g4, g5, g6, g7⟩ := h
  have hin : ∀ i, InC mb (kn :: bl) i → F i := fun i hi => by
    rcases hi with rfl | hi
    · exact g2
    · rcases List.mem_cons.1 hi with rfl | hi
      · exact g3
      · exact g4 i hi
  cases hf : f k with
  | none =>
    have hno : ∀ b ∈ bl, key b ≠ k := fun b hb e => by
      have := (h1.tells k b).2 ⟨hb, e⟩
      rw [hf] at this
      cases this
    refine (put_new k v hk x c mb kn bl key val f W h1 hf g6).mono ?_
    rintro ee w' ⟨rfl, ⟨N, l1, f', hN1, hN2, hC, hl1⟩, hT⟩
    refine ⟨rfl, fun i => i = x ∨ i = mb ∨ i = kn ∨ i ∈ l1, ⟨mb, kn, l1, upd key N k, upd val N v, f', hC, ?_, .inl rfl, .inr (.inl rfl), .inr (.inr (.inl rfl)), fun i hi => .inr (.inr (.inr hi)), fun i hi => ?_, ?_, fun i hi => hi⟩, fun i hi => ?_, hT.widen hin⟩
    · have hNb : N ∉ bl := fun hb => by have := g5 N (g4 N hb); omega
      rw [hl1]
      unfold putL
      rw [without_no hno, ← rows_upd (N := N) hNb]
      unfold rowsOf
      rw [List.map_take]
    · rcases hi with rfl | rfl | rfl | hi
      · exact Nat.lt_of_lt_of_le (g5 _ g1) hT.size
      · exact Nat.lt_of_lt_of_le (g5 _ g2) hT.size
      · exact Nat.lt_of_lt_of_le (g5 _ g3) hT.size
      · rw [hl1] at hi
        rcases List.mem_cons.1 (List.mem_of_mem_take hi) with rfl | hi
        · exact hN2
        · exact Nat.lt_of_lt_of_le (g5 _ (g4 _ hi)) hT.size
    · rw [hl1, List.length_take]; omega
    · rcases hi with rfl | rfl | rfl | hi
      · exact .inl g1
      · exact .inl g2
      · exact .inl g3
      · rw [hl1] at hi
        rcases List.mem_cons.1 (List.mem_of_mem_take hi) with rfl | hi
        · exact .inr hN1
        · exact .inl (g4 _ hi)
  | some e =>
    obtain ⟨he, hke⟩ := (h1.tells k e).1 hf
    have hkeys := h1.keys
    obtain ⟨l1, l2, rfl⟩ := List.append_of_mem he
    refine (put_old k v hk x c mb kn l1 l2 e key val f W h1 hke g6).mono ?_
    rintro ee w' ⟨rfl, hC, hT⟩
    have hne : e ∉ l1 ++ l2 := (List.nodup_cons.1 (List.nodup_cons.1 (move_nd h1.nd)).2).1
    have hl : (e :: (l1 ++ l2)).length = (l1 ++ e :: l2).length := by simp; omega
    refine ⟨rfl, F, ⟨mb, kn, _, key, _, f, hC, ?_, g1, g2, g3, fun i hi => g4 i (mem_move.1 hi), fun i hi => Nat.lt_of_lt_of_le (g5 i hi) hT.size, by omega, fun i hi => by rw [mem_move]; exact g7 i hi⟩, fun i hi => .inl hi, hT.widen hin⟩
    unfold putL
    rw [← hke, without_rows hkeys, ← rows_upv (val := val) (v := v) hne, List.take_of_length_le (by rw [rows_length]; omega)]
end Go.Proofs.Ytafhgigkhbcnjaa.LU.T
