/- LruKept's walk. -/
import Derived.Test.YtafhgigkhbcnjaaLuBkK
import Derived.Test.YtafhgigkhbcnjaaLuOpen
import Derived.Test.YtafhgigkhbcnjaaLuPlMath
import Derived.Test.YtafhgigkhbcnjaaLuKnown
namespace Go.Proofs.Ytafhgigkhbcnjaa.LU.K
open Go.RowKit Go.Joins Go.Sort Go.Maps
set_option linter.unusedVariables false
set_option linter.unusedSimpArgs false
set_option maxRecDepth 100000
theorem Tu.of_only {F : Nat → Prop} {w w' : World} (h : Only w w' F) : Tu F w w' := ⟨h.os, h.tape, h.output, h.size, h.block⟩
theorem only_of_tu {F : Nat → Prop} {w w' : World} (h : Tu F w w') : Only w w' F := ⟨h.os, h.tape, h.output, h.size, h.block⟩
theorem Lru.ty {w : World} {x c : Nat} {F : Nat → Prop} {l : List (κ × Int)} (h : Lru w x c F l) {k : Nat} (hk : F k) {t : TypeId} (ht : TyB w t k) (h1 : t ≠ 75) (h2 : t ≠ 72) : False := by
  obtain ⟨cur, hc⟩ := ht
  exact h.apart hc h1 h2 hk
/-- An empty book's block. -/
def Emp (w : World) (B : Nat) : Prop := BK.BookAt w B (.slice none 0 0) (.slice none 0 0) 0
set_option maxHeartbeats 1000000 in
theorem stays_nil (w : World) (B : Nat) (h : Emp w B) : Calls Try.prog 35 #[.pointer (some ⟨B, 0, none⟩)] w fun e w' => e = .returned (.bool true) ∧ w' = w := by
  have c0 := BK.BookAt.c0 h
  have c3 := BK.BookAt.c3 h
  clear h
  go_enter Try.func35, Try.ntmps35
  go_wp2_with fail
  go_loopw [3] (fun i wr => i = .int .i64 0 ∧ wr = w) (fun _ _ => 0)
  case atStart => exact ⟨rfl, rfl⟩
  case round =>
    obtain ⟨rfl, rfl⟩ := hrel
    go_wp2_with fail
    go_ret
    exact ⟨rfl, rfl⟩
set_option maxHeartbeats 1000000 in
theorem apart_nil (w : World) (B : Nat) (h : Emp w B) : Calls Try.prog 21 #[.pointer (some ⟨B, 0, none⟩), .func (.func 22) #[] #[]] w fun e w' => e = .returned (.bool true) ∧ Only w w' (fun k => k = B) := by
  have HS := stays_nil w B h
  have c0 := BK.BookAt.c0 h
  have f0 := BK.BookAt.free h
  have c1 := BK.BookAt.c1 h
  have c2 := BK.BookAt.c2 h
  clear h
  go_enter Try.func21, Try.ntmps21
  go_wp2_with fail
  refine HS.mono ?_
  rintro _ w1 ⟨rfl, he⟩
  obtain rfl := he.symm
  go_wp2_with fail
  go_loopw [5] (fun i wr => i = .int .i64 0 ∧ wr = w) (fun _ _ => 0)
  case atStart => exact ⟨rfl, rfl⟩
  case round =>
    obtain ⟨rfl, rfl⟩ := hrel
    go_wp2_with fail
    go_loopw [8] (fun i wq => i = .int .i64 0 ∧ wq = wr) (fun _ _ => 0)
    case atStart => exact ⟨rfl, rfl⟩
    case round =>
      obtain ⟨rfl, rfl⟩ := hrel
      go_wp2_with fail
      go_ret
      exact ⟨rfl, ((Only.set (S := fun k => k = B) B 0 _ rfl).trans (Only.set (S := fun k => k = B) B 1 _ rfl) (fun _ _ h => h)).trans (Only.set (S := fun k => k = B) B 2 _ rfl) (fun _ _ h => h)⟩
/-- A book of n lists at the most, whose blocks lie under s. -/
def Bo (w : World) (B BB n s : Nat) : Prop := Emp w BB ∨ ∃ vl vw es held, 0 < es.length ∧ es.length ≤ n ∧ BK.BookInv w B BB vl vw es held ∧ BK.Bnd es s
theorem Emp.inv {w : World} {BB : Nat} (h : Emp w BB) (B : Nat) : BK.BookInv w B BB (.slice none 0 0) (.slice none 0 0) [] 0 :=
  ⟨h, BK.SRow.nil _ _, BK.SRow.nil _ _, fun e he => (by simp at he), fun g hg => (by cases hg), List.Pairwise.nil⟩
theorem Bo.keep {w : World} {B BB n s g : Nat} {l : List κ} (h : Bo w B BB n s) (hBB : B ≤ BB) (hn : n ≤ 200) (hO : OwnE w g (cellsE l)) (hg : s ≤ g) (hw : B ≤ w.heap.size) (hs : B ≤ s) (hl : l.length ≤ 1000000) :
    Calls Try.prog 20 #[.pointer (some ⟨BB, 0, none⟩), .slice (some ⟨g, 0, none⟩) l.length l.length] w fun e w' => e = .returned (.tuple #[]) ∧ Bo w' B BB (n + 1) w.heap.size ∧ Only w w' (BK.Wk w B) := by
  have hv : BK.OV w B (.slice (some ⟨g, 0, none⟩) l.length l.length) l := ⟨_, _, rfl, OwnE.ownK hO B (by omega) hl⟩
  have hgw := OwnE.lt hO
  have hob : ∀ k, ob (Value.slice (some ⟨g, 0, none⟩) l.length l.length) = some k → k = g := fun k hk => by
    have hk' : (if l.length = 0 then none else some g) = some k := hk
    split at hk'
    · cases hk'
    · exact (Option.some.inj hk').symm
  rcases h with h | ⟨vl, vw, es, held, h1, h2, h3, h4⟩
  · refine (BK.keep_any w B BB _ _ [] 0 _ _ l (h.inv B) hv hw (by simp) (by omega) (fun e he => by simp at he)).mono ?_
    rintro e w' ⟨rfl, hp⟩
    obtain ⟨vl', vw', es', held', g1, g2, g3, g4, g5⟩ := hp.use (h.inv B) hBB (s := 0) (fun e he => by simp at he) (Nat.zero_le w.heap.size) (fun k hk => by rw [hob k hk]; exact hgw)
    exact ⟨rfl, .inr ⟨vl', vw', es', held', g1, by simp at g2; omega, g3, g4⟩, g5⟩
  · refine (BK.keep_any w B BB vl vw es held _ _ l h3 hv hw (by omega) (by omega) (fun e he k hk hk2 => by
      have := h4 e he k hk
      have := hob k hk2
      omega)).mono ?_
    rintro e w' ⟨rfl, hp⟩
    obtain ⟨vl', vw', es', held', g1, g2, g3, g4, g5⟩ := hp.use h3 hBB h4 (Nat.le_trans hg (Nat.le_of_lt hgw)) (fun k hk => by rw [hob k hk]; exact hgw)
    exact ⟨rfl, .inr ⟨vl', vw', es', held', g1, by omega, g3, g4⟩, g5⟩
theorem Bo.over {w w1 : World} {B BB n s : Nat} (h : Bo w B BB n s) (hBB : B ≤ BB) {S : Nat → Prop} (ho : Only w w1 S) (hS : ∀ k, S k → ¬ BK.Wr w B k) : Bo w1 B BB n s := by
  rcases h with h | ⟨vl, vw, es, held, h1, h2, h3, h4⟩
  · exact .inl (BK.BookAt.kept h (ho.block BB (BK.BookAt.lt h) (fun hs => hS BB hs ⟨hBB, .inl ⟨_, h⟩⟩)))
  · exact .inr ⟨vl, vw, es, held, h1, h2, h3.over hBB ho hS, h4⟩
theorem Bo.below {w w1 : World} {B BB n s : Nat} (h : Bo w B BB n s) (hBB : B ≤ BB) (hb : Below w.heap.size w w1) : Bo w1 B BB n s := h.over hBB (Only.ofBelow (S := fun _ => False) hb) (fun _ h => h.elim)
theorem Bo.up {w : World} {B BB n s s' n' : Nat} (h : Bo w B BB n s) (hs : s ≤ s') (hn : n ≤ n') : Bo w B BB n' s' := by
  rcases h with h | ⟨vl, vw, es, held, h1, h2, h3, h4⟩
  · exact .inl h
  · exact .inr ⟨vl, vw, es, held, h1, by omega, h3, h4.mono hs⟩
theorem Bo.apart {w : World} {B BB n s : Nat} (h : Bo w B BB n s) (hBB : B ≤ BB) (hn : n ≤ 1000) :
    Calls Try.prog 21 #[.pointer (some ⟨BB, 0, none⟩), .func (.func 22) #[] #[]] w fun e w' => e = .returned (.bool true) ∧ Only w w' (BK.WrU (fun k => k < s) w B) := by
  rcases h with h | ⟨vl, vw, es, held, h1, h2, h3, h4⟩
  · refine (apart_nil w BB h).mono ?_
    rintro e w' ⟨rfl, ho⟩
    exact ⟨rfl, ho.wider fun i _ hi => by rw [hi]; exact ⟨hBB, .inl ⟨_, h⟩⟩⟩
  · exact BK.apart_any w B BB vl vw es held h3 h1 (by omega) hBB h4
set_option maxHeartbeats 8000000 in
theorem kept_walk (a : Option Addr) (cap : Nat) (asks : List Ask) (W : World) (ha : ASP W a asks) (hk : ∀ y ∈ asks, Key64 y.key) (hlen : asks.length ≤ 9223372036854775807) :
    Calls Try.prog 6 #[.slice a asks.length cap] W fun e w' => e = .returned (.bool true) ∧ Below W.heap.size W w' := by
  obtain ⟨B, hB⟩ : ∃ B, B = W.heap.size := ⟨_, rfl⟩
  have HB : Hid (B = W.heap.size) := hB
  rw [← hB]
  obtain ⟨n, hn⟩ : ∃ n, n = asks.length := ⟨_, rfl⟩
  have HN : Hid (n = asks.length) := hn
  rw [← hn]
  rw [← hn] at hlen
  have HA : Hid (ASP W a asks) := ha
  have HKY : Hid (∀ y ∈ asks, Key64 y.key) := hk
  clear hB hn ha hk
  go_enter Try.func6, Try.ntmps6
  go_wp2_with fail
  refine (new_any 5 (by omega) W).mono ?_
  rintro _ w1 ⟨x, F0, rfl, h1, f1, b1⟩
  have s1 : B ≤ w1.heap.size := by rw [HB.out]; exact b1.size
  have b1 : Below B W w1 := by rw [HB.out]; exact b1
  have f1 : ∀ i, F0 i → B ≤ i := by rw [HB.out]; exact f1
  go_upto_region 5 with fail
  have hI := BK.book_new w1 (base := B)
  obtain ⟨BB, hBB⟩ : ∃ BB, BB = w1.heap.size := ⟨_, rfl⟩
  obtain ⟨w2, hw2⟩ : ∃ w2, w2 = w1.alloc (.cells #[.slice none 0 0, .slice none 0 0, .int .i64 0, .bool false] 53) := ⟨_, rfl⟩
  have hb2 : Below w1.heap.size w1 w2 := by rw [hw2]; exact (Below.refl _ _).alloc (Nat.le_refl _) _
  rw [← hBB, ← hw2] at hI ⊢
  have hE : Emp w2 BB := hI.at_
  have HBB : Hid (B ≤ BB) := by rw [hBB]; exact s1
  have h2 := h1.below hb2
  have b2 := b1.trans (hb2.mono s1)
  clear hw2 hBB hI h1 b1 s1 hb2
  go_wp2_with fail
  go_loopw [6] (fun s wr => ∃ (j : Nat) (l : List (κ × Int)) (F : Nat → Prop), j ≤ n ∧ j ≤ 60 ∧ s = .int .i64 j ∧ Lru wr x 5 F l ∧ (∀ i, F i → B ≤ i) ∧ Bo wr B BB (2 * j) wr.heap.size ∧ Below B W wr) (fun s _ => n - (intOf s).toNat)
  case atStart => exact ⟨0, [], F0, Nat.zero_le _, by omega, rfl, h2, f1, .inl hE, b2⟩
  case round =>
    obtain ⟨j, l, F, hjn, hj1, rfl, hL, hF, hBo, hBr⟩ := hrel
    clear h2 f1 hE b2
    have HL : Hid (Lru wr x 5 F l) := hL
    have HF : Hid (∀ i, F i → B ≤ i) := hF
    have HBo : Hid (Bo wr B BB (2 * j) wr.heap.size) := hBo
    have HBr : Hid (Below B W wr) := hBr
    have HS : Hid (B ≤ wr.heap.size) := by rw [HB.out]; exact hBr.size
    by_cases hlt : j < n ∧ j < 60
    · obtain ⟨hlt, hlt2⟩ := hlt
      have dj1 : decide ((j : Int) < (n : Int)) = true := decide_eq_true (by omega)
      have dj2 : decide (j < n) = true := decide_eq_true (by omega)
      have dj3 : decide ((j : Int) < 60) = true := decide_eq_true (by omega)
      have dj4 : decide (j < 60) = true := decide_eq_true (by omega)
      have hkl : j < asks.length := by rw [← HN.out]; exact hlt
      have hnil : asks ≠ [] := fun e => by rw [e] at hkl; simp at hkl
      rcases HA.out with h | ⟨ga, oa, rfl, hca⟩
      · exact absurd h hnil
      obtain ⟨ya, hy⟩ : ∃ y, asks[j]? = some y := ⟨asks[j], List.getElem?_eq_getElem hkl⟩
      have hkw : Kw ya.key := (HKY.out ya (List.mem_of_getElem? hy)).kw
      have hgl : ga < B := by rw [HB.out]; exact (hca j ya hy).lt
      obtain ⟨q0, q1, q2, q3⟩ := (hca j ya hy).below hBr hgl
      obtain ⟨kk, hkk⟩ : ∃ kk, kk = ya.key := ⟨_, rfl⟩
      obtain ⟨yv, hyv⟩ : ∃ yv, yv = ya.val := ⟨_, rfl⟩
      rw [← hkk] at q1 q2 hkw
      rw [← hyv] at q3
      have HKW : Hid (Kw kk) := hkw
      clear hca hnil hkl hkk hyv hL hF hBo hBr hy q0 hkw
      obtain ⟨k1, k2⟩ := kk
      go_upto_region 8 with fail
      have r1 := cell_regrown q1
      have r2 := cell_regrown q2
      have r3 := cell_regrown q3
      refine wp_region_quiet_tail (C := fun w' => ∃ p : Regrown, w' = grow (redrawn wr p.d) p.os) 11 (by kernel_rfl) (by kernel_rfl) ⟨⟨_, #[]⟩, by rw [grow_empty]; rfl⟩ ?_
      simp only [List.take_succ_cons, List.take_zero, List.drop_succ_cons, List.drop_zero]
      repeat (go_big_quiet_step (fail))
      refine wpQuiet_nil ?_
      intro wa hw'
      have hba : Below wr.heap.size wr wa := by
        obtain ⟨⟨dq, osq⟩, rfl⟩ := hw'
        exact below_regrown _ _ _
      clear hw' q1 q2 q3 r1 r2 r3
      have HLa : Hid (Lru wa x 5 F l) := HL.out.below hba
      have HBoa : Hid (Bo wa B BB (2 * j) wa.heap.size) := (HBo.out.below HBB.out hba).up hba.size (Nat.le_refl _)
      have HBa : Hid (Below B W wa) := HBr.out.trans (hba.mono HS.out)
      clear hba HL HBo HBr HS
      go_wp2_with fail
      have hput := put_any (k1, k2) yv HKW.out x 5 F l wa HLa.out
      unfold kv at hput
      refine hput.mono ?_
      rintro _ w3 ⟨rfl, F3, hL3, hF3, hT3⟩
      have hs3 : B ≤ wa.heap.size := by rw [HB.out]; exact HBa.out.size
      have HL3 : Hid (Lru w3 x 5 F3 (putL 5 l (k1, k2) yv)) := hL3
      have HF3 : Hid (∀ i, F3 i → B ≤ i) := fun i hi => (hF3 i hi).elim (HF.out i) (fun h => Nat.le_trans hs3 h)
      have HBo3 : Hid (Bo w3 B BB (2 * j) w3.heap.size) := (HBoa.out.over HBB.out (only_of_tu hT3) (fun k hk hw => by
        rcases hw.2 with h | h | h
        · exact HLa.out.ty hk h (by decide) (by decide)
        · exact HLa.out.ty hk h (by decide) (by decide)
        · exact HLa.out.ty hk h (by decide) (by decide))).up hT3.size (Nat.le_refl _)
      have HB3 : Hid (Below B W w3) := HBa.out.trans (Only.below (only_of_tu hT3) (fun i hi => HF.out i hi) hs3)
      obtain ⟨l3, hl3⟩ : ∃ l3, l3 = putL 5 l (k1, k2) yv := ⟨_, rfl⟩
      rw [← hl3] at HL3
      clear hput hL3 hF3 hT3 hs3 HLa HBoa HBa HF hl3
      go_wp2_with fail
      refine (keys_any x 5 F3 l3 w3 HL3.out).mono ?_
      rintro _ w4 ⟨gw4, rfl, hg, hO, hb⟩
      have hsA : B ≤ w3.heap.size := by rw [HB.out]; exact HB3.out.size
      have HLw4 : Hid (Lru w4 x 5 F3 l3) := HL3.out.below hb
      have HBw4 : Hid (Below B W w4) := HB3.out.trans (hb.mono hsA)
      have hkeep := (HBo3.out.below HBB.out hb).keep HBB.out (by omega) hO hg (by rw [HB.out]; exact HBw4.out.size) hsA (by rw [List.length_map]; have := HLw4.out.len; omega)
      rw [List.length_map] at hkeep
      have hB0 : Hid (B ≤ w4.heap.size) := Nat.le_trans hsA hb.size
      clear hg hO hb hsA HL3 HBo3 HB3
      go_wp2_with fail
      refine hkeep.mono ?_
      rintro _ w5 ⟨rfl, hBo, ho⟩
      have HLw5 : Hid (Lru w5 x 5 F3 l3) := HLw4.out.tu (Tu.of_only ho) (fun i hi hw => by
        rcases hw.2 with h | h
        · exact HLw4.out.ty hi h (by decide) (by decide)
        · exact HLw4.out.ty hi h (by decide) (by decide))
      have HBow5 : Hid (Bo w5 B BB (2 * j + 1) w5.heap.size) := hBo.up ho.size (Nat.le_refl _)
      have HBw5 : Hid (Below B W w5) := HBw4.out.trans (ho.below (fun i hi => hi.1) hB0.out)
      clear hkeep hBo ho hB0 HLw4 HBw4
      go_wp2_with fail
      refine (keys_any x 5 F3 l3 w5 HLw5.out).mono ?_
      rintro _ w6 ⟨gw6, rfl, hg, hO, hb⟩
      have hsA : B ≤ w5.heap.size := by rw [HB.out]; exact HBw5.out.size
      have HLw6 : Hid (Lru w6 x 5 F3 l3) := HLw5.out.below hb
      have HBw6 : Hid (Below B W w6) := HBw5.out.trans (hb.mono hsA)
      have hkeep := (HBow5.out.below HBB.out hb).keep HBB.out (by omega) hO hg (by rw [HB.out]; exact HBw6.out.size) hsA (by rw [List.length_map]; have := HLw6.out.len; omega)
      rw [List.length_map] at hkeep
      have hB0 : Hid (B ≤ w6.heap.size) := Nat.le_trans hsA hb.size
      clear hg hO hb hsA HLw5 HBow5 HBw5
      go_wp2_with fail
      refine hkeep.mono ?_
      rintro _ w7 ⟨rfl, hBo, ho⟩
      have HLw7 : Hid (Lru w7 x 5 F3 l3) := HLw6.out.tu (Tu.of_only ho) (fun i hi hw => by
        rcases hw.2 with h | h
        · exact HLw6.out.ty hi h (by decide) (by decide)
        · exact HLw6.out.ty hi h (by decide) (by decide))
      have HBow7 : Hid (Bo w7 B BB (2 * j + 1 + 1) w7.heap.size) := hBo.up ho.size (Nat.le_refl _)
      have HBw7 : Hid (Below B W w7) := HBw6.out.trans (ho.below (fun i hi => hi.1) hB0.out)
      clear hkeep hBo ho hB0 HLw6 HBw6
      go_wp2_with fail
      go_roundw
      case rel => exact ⟨j + 1, l3, F3, by omega, by omega, by go_num, HLw7.out, HF3.out, HBow7.out, HBw7.out⟩
      case measure => simp only [intOf]; omega
    · have hov : ¬ (j < n ∧ j < 60) := hlt
      clear hlt hL hF hBo hBr
      by_cases hjn2 : j < n
      · have dj1 : decide ((j : Int) < (n : Int)) = true := decide_eq_true (by omega)
        have dj2 : decide (j < n) = true := decide_eq_true (by omega)
        have dj3 : decide ((j : Int) < 60) = false := decide_eq_false (by omega)
        have dj4 : decide (j < 60) = false := decide_eq_false (by omega)
        clear hov
        go_wp2_with fail
        refine (keys_any x 5 F l wr HL.out).mono ?_
        rintro _ w8 ⟨g8, rfl, hg8, hO8, hb8⟩
        have HL8 : Hid (Lru w8 x 5 F l) := HL.out.below hb8
        have HB8 : Hid (Below B W w8) := HBr.out.trans (hb8.mono HS.out)
        have HO8 : Hid (OwnE w8 g8 (cellsE (l.map (·.1)))) := hO8
        have HG8 : Hid (wr.heap.size ≤ g8) := hg8
        have hap := (HBo.out.below HBB.out hb8).apart HBB.out (by omega)
        have hs8 : Hid (B ≤ w8.heap.size) := Nat.le_trans HS.out hb8.size
        obtain ⟨q, hq⟩ : ∃ q, q = l.length := ⟨_, rfl⟩
        have HQ : Hid (q = l.length) := hq
        have hq5 : q ≤ 4096 := by have := HL8.out.len; omega
        rw [← hq]
        clear hg8 hO8 hb8 HL HBo HBr HS hq
        go_wp2_with fail
        refine hap.mono ?_
        rintro _ w9 ⟨rfl, ho⟩
        have HL9 : Hid (Lru w9 x 5 F l) := HL8.out.tu (Tu.of_only ho) (fun i hi hw => by
          rcases hw.2 with h | h | h
          · exact HL8.out.ty hi h (by decide) (by decide)
          · exact HL8.out.ty hi h (by decide) (by decide)
          · exact HL8.out.ty hi h.1 (by decide) (by decide))
        have HO9 : Hid (OwnE w9 g8 (cellsE (l.map (·.1)))) := (ho.block g8 (OwnE.lt HO8.out) (fun hw => by
          have ht : TyB w8 36 g8 := ⟨_, HO8.out⟩
          rcases hw.2 with h | h | h
          · exact TyB.ne ht h (by decide) rfl
          · exact TyB.ne ht h (by decide) rfl
          · have h2 : g8 < wr.heap.size := h.2
            have := HG8.out
            omega)).trans HO8.out
        have HB9 : Hid (Below B W w9) := HB8.out.trans (ho.below (fun i hi => hi.1) hs8.out)
        have hs9 : Hid (B ≤ w9.heap.size) := Nat.le_trans hs8.out ho.size
        clear hap ho HL8 HB8 HO8 HG8 hs8
        go_wp2_with fail
        refine (keys_any x 5 F l w9 HL9.out).mono ?_
        rintro _ w10 ⟨g10, rfl, hg10, hO10, hb10⟩
        have hsame := same_any (some ⟨g10, 0, none⟩) (some ⟨g8, 0, none⟩) q q (l.map (·.1)) w10 (by rw [List.length_map, ← HQ.out]; omega) (OwnE.esp hO10) ((OwnE.esp HO9.out).below hb10)
        rw [List.length_map, ← HQ.out] at hsame
        rw [← HQ.out]
        have HB10 : Hid (Below B W w10) := HB9.out.trans (hb10.mono hs9.out)
        clear hg10 hO10 hb10 HL9 HO9 HB9 hs9
        go_wp2_with fail
        refine hsame.mono ?_
        rintro _ w11 ⟨rfl, hb11⟩
        have HB11 : Hid (Below B W w11) := HB10.out.trans (hb11.mono (by rw [HB.out]; exact HB10.out.size))
        clear hsame hb11 HB10
        go_wp2_with fail
        refine (T.known_any w11).mono ?_
        rintro _ w12 ⟨rfl, hb12⟩
        go_wp2_with fail
        go_ret
        exact ⟨rfl, HB11.out.trans (hb12.mono (by rw [HB.out]; exact HB11.out.size))⟩
      · have dj1 : decide ((j : Int) < (n : Int)) = false := decide_eq_false (by omega)
        have dj2 : decide (j < n) = false := decide_eq_false (by omega)
        clear hov
        go_wp2_with fail
        refine (keys_any x 5 F l wr HL.out).mono ?_
        rintro _ w8 ⟨g8, rfl, hg8, hO8, hb8⟩
        have HL8 : Hid (Lru w8 x 5 F l) := HL.out.below hb8
        have HB8 : Hid (Below B W w8) := HBr.out.trans (hb8.mono HS.out)
        have HO8 : Hid (OwnE w8 g8 (cellsE (l.map (·.1)))) := hO8
        have HG8 : Hid (wr.heap.size ≤ g8) := hg8
        have hap := (HBo.out.below HBB.out hb8).apart HBB.out (by omega)
        have hs8 : Hid (B ≤ w8.heap.size) := Nat.le_trans HS.out hb8.size
        obtain ⟨q, hq⟩ : ∃ q, q = l.length := ⟨_, rfl⟩
        have HQ : Hid (q = l.length) := hq
        have hq5 : q ≤ 4096 := by have := HL8.out.len; omega
        rw [← hq]
        clear hg8 hO8 hb8 HL HBo HBr HS hq
        go_wp2_with fail
        refine hap.mono ?_
        rintro _ w9 ⟨rfl, ho⟩
        have HL9 : Hid (Lru w9 x 5 F l) := HL8.out.tu (Tu.of_only ho) (fun i hi hw => by
          rcases hw.2 with h | h | h
          · exact HL8.out.ty hi h (by decide) (by decide)
          · exact HL8.out.ty hi h (by decide) (by decide)
          · exact HL8.out.ty hi h.1 (by decide) (by decide))
        have HO9 : Hid (OwnE w9 g8 (cellsE (l.map (·.1)))) := (ho.block g8 (OwnE.lt HO8.out) (fun hw => by
          have ht : TyB w8 36 g8 := ⟨_, HO8.out⟩
          rcases hw.2 with h | h | h
          · exact TyB.ne ht h (by decide) rfl
          · exact TyB.ne ht h (by decide) rfl
          · have h2 : g8 < wr.heap.size := h.2
            have := HG8.out
            omega)).trans HO8.out
        have HB9 : Hid (Below B W w9) := HB8.out.trans (ho.below (fun i hi => hi.1) hs8.out)
        have hs9 : Hid (B ≤ w9.heap.size) := Nat.le_trans hs8.out ho.size
        clear hap ho HL8 HB8 HO8 HG8 hs8
        go_wp2_with fail
        refine (keys_any x 5 F l w9 HL9.out).mono ?_
        rintro _ w10 ⟨g10, rfl, hg10, hO10, hb10⟩
        have hsame := same_any (some ⟨g10, 0, none⟩) (some ⟨g8, 0, none⟩) q q (l.map (·.1)) w10 (by rw [List.length_map, ← HQ.out]; omega) (OwnE.esp hO10) ((OwnE.esp HO9.out).below hb10)
        rw [List.length_map, ← HQ.out] at hsame
        rw [← HQ.out]
        have HB10 : Hid (Below B W w10) := HB9.out.trans (hb10.mono hs9.out)
        clear hg10 hO10 hb10 HL9 HO9 HB9 hs9
        go_wp2_with fail
        refine hsame.mono ?_
        rintro _ w11 ⟨rfl, hb11⟩
        have HB11 : Hid (Below B W w11) := HB10.out.trans (hb11.mono (by rw [HB.out]; exact HB10.out.size))
        clear hsame hb11 HB10
        go_wp2_with fail
        refine (T.known_any w11).mono ?_
        rintro _ w12 ⟨rfl, hb12⟩
        go_wp2_with fail
        go_ret
        exact ⟨rfl, HB11.out.trans (hb12.mono (by rw [HB.out]; exact HB11.out.size))⟩
end Go.Proofs.Ytafhgigkhbcnjaa.LU.K
