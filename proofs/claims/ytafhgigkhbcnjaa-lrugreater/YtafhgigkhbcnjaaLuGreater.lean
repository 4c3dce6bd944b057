/- LruGreater's walk (written by genlugreater.py). -/
import Derived.Test.YtafhgigkhbcnjaaLuGrMath
import Derived.Test.YtafhgigkhbcnjaaLuKnown
import Derived.Test.YtafhgigkhbcnjaaUWithin
namespace Go.Proofs.Ytafhgigkhbcnjaa.LU.K
open Go.RowKit Go.Joins Go.Sort Go.Maps
set_option linter.unusedVariables false
set_option linter.unusedSimpArgs false
set_option maxRecDepth 100000
theorem Tu.belowG {F : Nat → Prop} {base : Nat} {w w' : World} (h : Tu F w w') (hF : ∀ i, F i → base ≤ i) (hb : base ≤ w.heap.size) : Below base w w' :=
  ⟨h.os, h.tape, h.output, h.size, fun k hk => h.block k (by omega) (fun e => by have := hF k e; omega)⟩
theorem Lru.lts {w : World} {x c : Nat} {F : Nat → Prop} {l : List (κ × Int)} (h : Lru w x c F l) : ∀ i, F i → i < w.heap.size := by
  obtain ⟨mb, kn, bl, key, val, f, k1, k2, k3, k4, k5, k6, k7, k8, k9⟩ := h
  exact k7
theorem ESP.first {w : World} {g : Nat} {l m : List κ} (h : OwnE w g (cellsE m)) (hl : l <+: m) : ESP w (some ⟨g, 0, none⟩) l := by
  obtain ⟨r, rfl⟩ := hl
  refine .inr ⟨g, 0, rfl, fun i x hx => ?_⟩
  rw [Nat.zero_add]
  have e : cellsE (l ++ r) = cellsE l ++ cellsE r := by simp [cellsE]
  rw [e] at h
  exact OwnE.at_ h hx
theorem without_ge0 {k : κ} {l : List (κ × Int)} (h : (l.map (·.1)).Nodup) : l.length ≤ (without k l).length + 1 := without_ge h
theorem take_prefix {c : Nat} {l m : List (κ × Int)} (h : l = m.take c) : l.map (·.1) <+: m.map (·.1) := by
  rw [h, List.map_take]; exact List.take_prefix _ _
set_option maxHeartbeats 8000000 in
theorem greater_walk (c0 m0 : Int) (a : Option Addr) (cap : Nat) (asks : List Ask) (W : World) (ha : ASP W a asks) (hk : ∀ y ∈ asks, Key64 y.key) (hlen : asks.length ≤ 9223372036854775807) :
    Calls Try.prog 5 #[.int .i64 c0, .int .i64 m0, .slice a asks.length cap] W fun e w' => e = .returned (.bool true) ∧ Below W.heap.size W w' := by
  obtain ⟨B, hB⟩ : ∃ B, B = W.heap.size := ⟨_, rfl⟩
  have HB : Hid (B = W.heap.size) := hB
  rw [← hB]
  obtain ⟨n, hn⟩ : ∃ n, n = asks.length := ⟨_, rfl⟩
  have HN : Hid (n = asks.length) := hn
  rw [← hn]
  rw [← hn] at hlen
  have HA : Hid (ASP W a asks) := ha
  have HKY : Hid (∀ y ∈ asks, Key64 y.key) := hk
  clear hB hn ha hk
  go_enter Try.func5, Try.ntmps5
  go_wp2_with fail
  refine (within_any c0 20 (by omega) W).mono ?_
  rintro _ _ ⟨c, hc, rfl, he⟩
  obtain rfl := he.symm
  go_wp2_with fail
  refine (within_any m0 20 (by omega) W).mono ?_
  rintro _ _ ⟨mo, hmo, rfl, he⟩
  obtain rfl := he.symm
  go_wp2_with fail
  refine (new_any c (by omega) W).mono ?_
  rintro _ w1 ⟨x, F0, rfl, h1, f1, b1⟩
  have s1 : B ≤ w1.heap.size := by rw [HB.out]; exact b1.size
  have b1 : Below B W w1 := by rw [HB.out]; exact b1
  have f1 : ∀ i, F0 i → B ≤ i := by rw [HB.out]; exact f1
  obtain ⟨d, hd⟩ : ∃ d, d = c + mo := ⟨_, rfl⟩
  have ED : Hid ((c : Int) + (mo : Int) = ((d : Nat) : Int)) := by show (c : Int) + (mo : Int) = ((d : Nat) : Int); omega
  have HCD : Hid (c ≤ d) := by show c ≤ d; omega
  have hd40 : d ≤ 40 := by omega
  clear hd
  go_wp2_with fail
  rw [ED.out]
  refine (new_any d (by omega) w1).mono ?_
  rintro _ w2 ⟨y, G0, rfl, h2, f2, b2⟩
  have h1' := h1.below b2
  have hdj : ∀ i, F0 i → ¬ G0 i := fun i hi hg => by have := h1.lts i hi; have := f2 i hg; omega
  have f2' : ∀ i, G0 i → B ≤ i := fun i hi => Nat.le_trans s1 (f2 i hi)
  have b2' : Below B W w2 := b1.trans (b2.mono s1)
  clear h1 f2 b1 b2 s1
  go_upto_region 7 with fail
  go_wp2_with fail
  go_loopw [11] (fun s wr => ∃ (j : Nat) (l m : List (κ × Int)) (F G : Nat → Prop), j ≤ n ∧ j ≤ 100 ∧ s = .int .i64 j ∧ Lru wr x c F l ∧ Lru wr y d G m ∧ (∀ i, F i → ¬ G i) ∧ (∀ i, F i → B ≤ i) ∧ (∀ i, G i → B ≤ i) ∧ l = m.take c ∧ Fst m ∧ Below B W wr) (fun s _ => n - (intOf s).toNat)
  case atStart => exact ⟨0, [], [], F0, G0, Nat.zero_le _, by omega, rfl, h1', h2, hdj, f1, f2', by simp, fun r hr => by simp at hr, b2'⟩
  case round =>
    obtain ⟨j, l, m, F, G, hjn, hj1, rfl, hL, hM, hFG, hF, hG, hlm, hfst, hBr⟩ := hrel
    clear h1' h2 hdj f1 f2' b2'
    have HL : Hid (Lru wr x c F l) := hL
    have HM : Hid (Lru wr y d G m) := hM
    have HFG : Hid (∀ i, F i → ¬ G i) := hFG
    have HF : Hid (∀ i, F i → B ≤ i) := hF
    have HG : Hid (∀ i, G i → B ≤ i) := hG
    have HLM : Hid (l = m.take c) := hlm
    have HFS : Hid (Fst m) := hfst
    have HFL : Hid (Fst l) := fun r hr => hfst r (List.mem_of_mem_take (by rw [← hlm]; exact hr))
    have HND : Hid ((m.map (·.1)).Nodup) := hM.nodup
    have HBr : Hid (Below B W wr) := hBr
    have HS : Hid (B ≤ wr.heap.size) := by rw [HB.out]; exact hBr.size
    by_cases hlt : j < n ∧ j < 100
    · obtain ⟨hlt, hlt2⟩ := hlt
      have dj1 : decide ((j : Int) < (n : Int)) = true := decide_eq_true (by omega)
      have dj2 : decide (j < n) = true := decide_eq_true (by omega)
      have dj3 : decide ((j : Int) < 100) = true := decide_eq_true (by omega)
      have dj4 : decide (j < 100) = true := decide_eq_true (by omega)
      have hkl : j < asks.length := by rw [← HN.out]; exact hlt
      have hnil : asks ≠ [] := fun e => by rw [e] at hkl; simp at hkl
      rcases HA.out with h | ⟨ga, oa, rfl, hca⟩
      · exact absurd h hnil
      obtain ⟨ya, hy⟩ : ∃ y, asks[j]? = some y := ⟨asks[j], List.getElem?_eq_getElem hkl⟩
      have hkw : Kw ya.key := (HKY.out ya (List.mem_of_getElem? hy)).kw
      have hgl : ga < B := by rw [HB.out]; exact (hca j ya hy).lt
      obtain ⟨q0, q1, q2, q3⟩ := (hca j ya hy).below hBr hgl
      obtain ⟨kk, hkk⟩ : ∃ kk, kk = ya.key := ⟨_, rfl⟩
      rw [← hkk] at q1 q2 hkw
      have HKW : Hid (Kw kk) := hkw
      have HNZ : Hid (j < n) := hlt
      clear hca hnil hkl hkk hL hM hFG hF hG hlm hfst hBr hy q0 q3 hkw
      obtain ⟨k1, k2⟩ := kk
      go_upto_region 11 with fail
      obtain ⟨A, hA⟩ : ∃ A, A = wr.heap.size := ⟨_, rfl⟩
      obtain ⟨wa, hwa⟩ : ∃ wa, wa = wr.alloc (.cells #[.int .i64 k1, .int .i64 k2] 36 (0, 0)) := ⟨_, rfl⟩
      have hba : Below wr.heap.size wr wa := by rw [hwa]; exact (Below.refl _ _).alloc (Nat.le_refl _) _
      have haA : wa.heap[A]? = some (.cells #[.int .i64 k1, .int .i64 k2] 36 (0, 0)) := by rw [hwa, hA]; exact heap_alloc_new wr _
      rw [← hwa, ← hA]
      have HaA : Hid (wa.heap[A]? = some (.cells #[.int .i64 k1, .int .i64 k2] 36 (0, 0))) := haA
      have HLa : Hid (Lru wa x c F l) := HL.out.below hba
      have HMa : Hid (Lru wa y d G m) := HM.out.below hba
      have HBa : Hid (Below B W wa) := HBr.out.trans (hba.mono HS.out)
      have q1 := (cell_of_block haA (i := 0)).trans rfl
      have q2 := (cell_of_block haA (i := 1)).trans rfl
      clear hwa hA hba haA HL HM HBr HS
      go_wp2_with fail
      have hget := get_any (k1, k2) HKW.out x c F l wa HLa.out
      unfold kv at hget
      refine hget.mono ?_
      rintro _ w3 ⟨rfl, hL3, hT3⟩
      have HL3 : Hid (Lru w3 x c F (getL l (k1, k2))) := hL3
      have HM3 : Hid (Lru w3 y d G m) := HMa.out.tu hT3 (fun i hi hf => HFG.out i hf hi)
      have HA3 : Hid _ := (hT3.block A (Array.getElem?_eq_some_iff.1 HaA.out).1 (HLa.out.apart HaA.out (by decide) (by decide))).trans HaA.out
      have HB3 : Hid (Below B W w3) := HBa.out.trans (Tu.belowG hT3 HF.out (Nat.le_trans (Nat.le_of_eq HB.out) HBa.out.size))
      have q1 := (cell_of_block HA3.out (i := 0)).trans rfl
      have q2 := (cell_of_block HA3.out (i := 1)).trans rfl
      clear hget hL3 hT3 HaA HLa HMa HBa
      go_wp2_with fail
      have hget := get_any (k1, k2) HKW.out y d G m w3 HM3.out
      unfold kv at hget
      refine hget.mono ?_
      rintro _ w4 ⟨rfl, hM4, hT4⟩
      have HM4 : Hid (Lru w4 y d G (getL m (k1, k2))) := hM4
      have HL4 : Hid (Lru w4 x c F (getL l (k1, k2))) := HL3.out.tu hT4 HFG.out
      have HA4 : Hid _ := (hT4.block A (Array.getElem?_eq_some_iff.1 HA3.out).1 (HM3.out.apart HA3.out (by decide) (by decide))).trans HA3.out
      have HB4 : Hid (Below B W w4) := HB3.out.trans (Tu.belowG hT4 HG.out (Nat.le_trans (Nat.le_of_eq HB.out) HB3.out.size))
      have q1 := (cell_of_block HA4.out (i := 0)).trans rfl
      have q2 := (cell_of_block HA4.out (i := 1)).trans rfl
      have hlen1 := HL3.out.len
      clear hget hM4 hT4 HL3 HM3 HA3 HB3 hlen1
      cases hgl1 : gotL l (k1, k2) with
      | some v =>
        have hgm := got_take HLM.out hgl1
        have hv := HFL.out.got hgl1
        have HLx : Hid (Lru w4 x c F (putL c l (k1, k2) k1)) := by
          have h1 : l.length ≤ c := by rw [HLM.out, List.length_take]; omega
          rw [← get_put HFL.out hgl1 h1]; exact HL4.out
        have HMx : Hid (Lru w4 y d G (putL d m (k1, k2) k1)) := by
          have h1 : (getL m (k1, k2)).length ≤ d := HM4.out.len.1
          have h2 : m.length ≤ d := by
            have h3 : (without (k1, k2) m).length + 1 ≤ d := by rw [getL_some hgm] at h1; simpa using h1
            have := without_ge0 (k := (k1, k2)) (l := m) HND.out
            omega
          rw [← get_put HFS.out hgm h2]; exact HM4.out
        rw [hgm]
        simp only at hv
        obtain rfl : k1 = v := hv.symm
        clear hgl1 hgm HL4 HM4
        simp only [Option.getD_some, Option.isSome_some]
        go_upto_region 19 with fail
        have HLM2 : Hid (putL c l (k1, k2) k1 = (putL d m (k1, k2) k1).take c) := put_take HCD.out HND.out HLM.out
        have HFS2 : Hid (Fst (putL d m (k1, k2) k1)) := HFS.out.put d (k1, k2)
        obtain ⟨l2, hl2⟩ : ∃ l2, l2 = putL c l (k1, k2) k1 := ⟨_, rfl⟩
        obtain ⟨m2, hm2⟩ : ∃ m2, m2 = putL d m (k1, k2) k1 := ⟨_, rfl⟩
        rw [← hl2, ← hm2] at HLM2
        rw [← hm2] at HFS2 HMx
        rw [← hl2] at HLx
        clear hl2 hm2
        go_wp2_with fail
        refine (keys_any x c F l2 w4 HLx.out).mono ?_
        rintro _ wK ⟨gk, rfl, hgk, hOK, hbK⟩
        have HLK : Hid (Lru wK x c F l2) := HLx.out.below hbK
        have HMK : Hid (Lru wK y d G m2) := HMx.out.below hbK
        have HBK : Hid (Below B W wK) := HB4.out.trans (hbK.mono (Nat.le_trans (Nat.le_of_eq HB.out) HB4.out.size))
        have HOK : Hid (OwnE wK gk (cellsE (l2.map (·.1)))) := hOK
        obtain ⟨ql, hql⟩ : ∃ ql, ql = l2.length := ⟨_, rfl⟩
        have HQL : Hid (ql = l2.length) := hql
        rw [← hql]
        clear hgk hOK hbK HLx HMx HB4 hql
        go_wp2_with fail
        refine (keys_any y d G m2 wK HMK.out).mono ?_
        rintro _ wM ⟨gm, rfl, hgm, hOM, hbM⟩
        have HLM3 : Hid (Lru wM x c F l2) := HLK.out.below hbM
        have HMM3 : Hid (Lru wM y d G m2) := HMK.out.below hbM
        have HBM : Hid (Below B W wM) := HBK.out.trans (hbM.mono (Nat.le_trans (Nat.le_of_eq HB.out) HBK.out.size))
        have hE1 : ESP wM (some ⟨gk, 0, none⟩) (l2.map (·.1)) := (OwnE.esp HOK.out).below hbM
        have hE2 : ESP wM (some ⟨gm, 0, none⟩) (l2.map (·.1)) := ESP.first hOM (take_prefix HLM2.out)
        obtain ⟨qm, hqm⟩ : ∃ qm, qm = m2.length := ⟨_, rfl⟩
        have HQM : Hid (qm = m2.length) := hqm
        rw [← hqm]
        have hlm1 : ql ≤ c := by rw [HQL.out]; exact HLM3.out.len.1
        have hlm2 : ql ≤ qm := by rw [HQL.out, HQM.out, HLM2.out, List.length_take]; omega
        have hlm3 : qm ≤ 4096 := by rw [HQM.out]; have := HMM3.out.len; omega
        have dq1 : decide ((c : Int) < (ql : Int)) = false := decide_eq_false (by omega)
        have dq2 : decide (c < ql) = false := decide_eq_false (by omega)
        have dq3 : decide ((qm : Int) < (ql : Int)) = false := decide_eq_false (by omega)
        have dq4 : decide (qm < ql) = false := decide_eq_false (by omega)
        have iq : 0 ≤ (ql : Int) ∧ (ql : Int) ≤ (qm : Int) := by omega
        have hsame := same_any (some ⟨gk, 0, none⟩) (some ⟨gm, 0, none⟩) ql qm (l2.map (·.1)) wM (by rw [List.length_map, ← HQL.out]; omega) hE1 hE2
        rw [List.length_map, ← HQL.out] at hsame
        clear hgm hOM hbM HLK HMK HBK HOK hE1 hE2 hqm
        go_wp2_with fail
        refine hsame.mono ?_
        rintro _ wS ⟨rfl, hbS⟩
        have HFIN : Hid (Lru wS x c F l2 ∧ Lru wS y d G m2 ∧ Below B W wS) := ⟨HLM3.out.below hbS, HMM3.out.below hbS, HBM.out.trans (hbS.mono (Nat.le_trans (Nat.le_of_eq HB.out) HBM.out.size))⟩
        clear hsame hbS HLM3 HMM3 HBM
        go_wp2_with fail
        go_roundw
        case rel => exact ⟨j + 1, l2, m2, F, G, by omega, by omega, by go_num, HFIN.out.1, HFIN.out.2.1, HFG.out, HF.out, HG.out, HLM2.out, HFS2.out, HFIN.out.2.2⟩
        case measure => simp only [intOf]; omega
      | none =>
        cases hgm : gotL m (k1, k2) with
        | some v =>
          have hv := HFS.out.got hgm
          have HMx : Hid (Lru w4 y d G (putL d m (k1, k2) k1)) := by
            have h1 : (getL m (k1, k2)).length ≤ d := HM4.out.len.1
            have h2 : m.length ≤ d := by
              have h3 : (without (k1, k2) m).length + 1 ≤ d := by rw [getL_some hgm] at h1; simpa using h1
              have := without_ge0 (k := (k1, k2)) (l := m) HND.out
              omega
            rw [← get_put HFS.out hgm h2]; exact HM4.out
          have HL4' : Hid (Lru w4 x c F l) := by rw [← getL_none hgl1]; exact HL4.out
          simp only at hv
          obtain rfl : k1 = v := hv.symm
          clear hgl1 hgm HL4 HM4
          simp only [Option.getD_some, Option.isSome_some, Option.getD_none, Option.isSome_none]
          go_wp2_with fail
          have hput := put_any (k1, k2) k1 HKW.out x c F l w4 HL4'.out
          unfold kv at hput
          refine hput.mono ?_
          rintro _ w5 ⟨rfl, F5, hL5, hF5, hT5⟩
          have HLx : Hid (Lru w5 x c F5 (putL c l (k1, k2) k1)) := hL5
          have HMx0 : Hid (Lru w4 y d G (putL d m (k1, k2) k1)) := HMx.out
          have HFo : Hid (∀ i, F i → B ≤ i) := HF.out
          have HMx : Hid (Lru w5 y d G (putL d m (k1, k2) k1)) := HMx.out.tu hT5 (fun i hi hf => HFG.out i hf hi)
          have HFG : Hid (∀ i, F5 i → ¬ G i) := fun i hi hg => (hF5 i hi).elim (fun h => HFG.out i h hg) (fun h => by have := HMx0.out.lts i hg; omega)
          have HF : Hid (∀ i, F5 i → B ≤ i) := fun i hi => (hF5 i hi).elim (HF.out i) (fun h => Nat.le_trans (Nat.le_trans (Nat.le_of_eq HB.out) HB4.out.size) h)
          have HB5 : Hid (Below B W w5) := HB4.out.trans (Tu.belowG hT5 HFo.out (Nat.le_trans (Nat.le_of_eq HB.out) HB4.out.size))
          clear hput hL5 hF5 hT5 HL4' HA4 HB4 HMx0 HFo
          go_upto_region 19 with fail
          have HLM2 : Hid (putL c l (k1, k2) k1 = (putL d m (k1, k2) k1).take c) := put_take HCD.out HND.out HLM.out
          have HFS2 : Hid (Fst (putL d m (k1, k2) k1)) := HFS.out.put d (k1, k2)
          obtain ⟨l2, hl2⟩ : ∃ l2, l2 = putL c l (k1, k2) k1 := ⟨_, rfl⟩
          obtain ⟨m2, hm2⟩ : ∃ m2, m2 = putL d m (k1, k2) k1 := ⟨_, rfl⟩
          rw [← hl2, ← hm2] at HLM2
          rw [← hm2] at HFS2 HMx
          rw [← hl2] at HLx
          clear hl2 hm2
          go_wp2_with fail
          refine (keys_any x c F5 l2 w5 HLx.out).mono ?_
          rintro _ wK ⟨gk, rfl, hgk, hOK, hbK⟩
          have HLK : Hid (Lru wK x c F5 l2) := HLx.out.below hbK
          have HMK : Hid (Lru wK y d G m2) := HMx.out.below hbK
          have HBK : Hid (Below B W wK) := HB5.out.trans (hbK.mono (Nat.le_trans (Nat.le_of_eq HB.out) HB5.out.size))
          have HOK : Hid (OwnE wK gk (cellsE (l2.map (·.1)))) := hOK
          obtain ⟨ql, hql⟩ : ∃ ql, ql = l2.length := ⟨_, rfl⟩
          have HQL : Hid (ql = l2.length) := hql
          rw [← hql]
          clear hgk hOK hbK HLx HMx HB5 hql
          go_wp2_with fail
          refine (keys_any y d G m2 wK HMK.out).mono ?_
          rintro _ wM ⟨gm, rfl, hgm, hOM, hbM⟩
          have HLM3 : Hid (Lru wM x c F5 l2) := HLK.out.below hbM
          have HMM3 : Hid (Lru wM y d G m2) := HMK.out.below hbM
          have HBM : Hid (Below B W wM) := HBK.out.trans (hbM.mono (Nat.le_trans (Nat.le_of_eq HB.out) HBK.out.size))
          have hE1 : ESP wM (some ⟨gk, 0, none⟩) (l2.map (·.1)) := (OwnE.esp HOK.out).below hbM
          have hE2 : ESP wM (some ⟨gm, 0, none⟩) (l2.map (·.1)) := ESP.first hOM (take_prefix HLM2.out)
          obtain ⟨qm, hqm⟩ : ∃ qm, qm = m2.length := ⟨_, rfl⟩
          have HQM : Hid (qm = m2.length) := hqm
          rw [← hqm]
          have hlm1 : ql ≤ c := by rw [HQL.out]; exact HLM3.out.len.1
          have hlm2 : ql ≤ qm := by rw [HQL.out, HQM.out, HLM2.out, List.length_take]; omega
          have hlm3 : qm ≤ 4096 := by rw [HQM.out]; have := HMM3.out.len; omega
          have dq1 : decide ((c : Int) < (ql : Int)) = false := decide_eq_false (by omega)
          have dq2 : decide (c < ql) = false := decide_eq_false (by omega)
          have dq3 : decide ((qm : Int) < (ql : Int)) = false := decide_eq_false (by omega)
          have dq4 : decide (qm < ql) = false := decide_eq_false (by omega)
          have iq : 0 ≤ (ql : Int) ∧ (ql : Int) ≤ (qm : Int) := by omega
          have hsame := same_any (some ⟨gk, 0, none⟩) (some ⟨gm, 0, none⟩) ql qm (l2.map (·.1)) wM (by rw [List.length_map, ← HQL.out]; omega) hE1 hE2
          rw [List.length_map, ← HQL.out] at hsame
          clear hgm hOM hbM HLK HMK HBK HOK hE1 hE2 hqm
          go_wp2_with fail
          refine hsame.mono ?_
          rintro _ wS ⟨rfl, hbS⟩
          have HFIN : Hid (Lru wS x c F5 l2 ∧ Lru wS y d G m2 ∧ Below B W wS) := ⟨HLM3.out.below hbS, HMM3.out.below hbS, HBM.out.trans (hbS.mono (Nat.le_trans (Nat.le_of_eq HB.out) HBM.out.size))⟩
          clear hsame hbS HLM3 HMM3 HBM
          go_wp2_with fail
          go_roundw
          case rel => exact ⟨j + 1, l2, m2, F5, G, by omega, by omega, by go_num, HFIN.out.1, HFIN.out.2.1, HFG.out, HF.out, HG.out, HLM2.out, HFS2.out, HFIN.out.2.2⟩
          case measure => simp only [intOf]; omega
        | none =>
          have HM4' : Hid (Lru w4 y d G m) := by rw [← getL_none hgm]; exact HM4.out
          have HL4' : Hid (Lru w4 x c F l) := by rw [← getL_none hgl1]; exact HL4.out
          clear hgl1 hgm HL4 HM4
          simp only [Option.getD_none, Option.isSome_none]
          go_wp2_with fail
          have hput := put_any (k1, k2) k1 HKW.out x c F l w4 HL4'.out
          unfold kv at hput
          refine hput.mono ?_
          rintro _ w5 ⟨rfl, F5, hL5, hF5, hT5⟩
          have HL5 : Hid (Lru w5 x c F5 (putL c l (k1, k2) k1)) := hL5
          have HM5 : Hid (Lru w5 y d G m) := HM4'.out.tu hT5 (fun i hi hf => HFG.out i hf hi)
          have HFG5 : Hid (∀ i, F5 i → ¬ G i) := fun i hi hg => (hF5 i hi).elim (fun h => HFG.out i h hg) (fun h => by have := HM4'.out.lts i hg; omega)
          have HF5 : Hid (∀ i, F5 i → B ≤ i) := fun i hi => (hF5 i hi).elim (HF.out i) (fun h => Nat.le_trans (Nat.le_trans (Nat.le_of_eq HB.out) HB4.out.size) h)
          have HB5 : Hid (Below B W w5) := HB4.out.trans (Tu.belowG hT5 HF.out (Nat.le_trans (Nat.le_of_eq HB.out) HB4.out.size))
          have HA5 : Hid _ := (hT5.block A (Array.getElem?_eq_some_iff.1 HA4.out).1 (HL4'.out.apart HA4.out (by decide) (by decide))).trans HA4.out
          have q1 := (cell_of_block HA5.out (i := 0)).trans rfl
          have q2 := (cell_of_block HA5.out (i := 1)).trans rfl
          clear hput hL5 hF5 hT5 HL4' HM4' HA4 HB4 HFG HF
          go_wp2_with fail
          have hput := put_any (k1, k2) k1 HKW.out y d G m w5 HM5.out
          unfold kv at hput
          refine hput.mono ?_
          rintro _ w6 ⟨rfl, G6, hM6, hG6, hT6⟩
          have HMx : Hid (Lru w6 y d G6 (putL d m (k1, k2) k1)) := hM6
          have HLx : Hid (Lru w6 x c F5 (putL c l (k1, k2) k1)) := HL5.out.tu hT6 HFG5.out
          have HFG : Hid (∀ i, F5 i → ¬ G6 i) := fun i hi hg => (hG6 i hg).elim (fun h => HFG5.out i hi h) (fun h => by have := HL5.out.lts i hi; omega)
          have HF : Hid (∀ i, F5 i → B ≤ i) := HF5.out
          have HG' : Hid (∀ i, G6 i → B ≤ i) := fun i hi => (hG6 i hi).elim (HG.out i) (fun h => Nat.le_trans (Nat.le_trans (Nat.le_of_eq HB.out) HB5.out.size) h)
          have HB6 : Hid (Below B W w6) := HB5.out.trans (Tu.belowG hT6 HG.out (Nat.le_trans (Nat.le_of_eq HB.out) HB5.out.size))
          clear hput hM6 hG6 hT6 HL5 HM5 HA5 HB5 HFG5 HF5 HG
          go_upto_region 19 with fail
          have HLM2 : Hid (putL c l (k1, k2) k1 = (putL d m (k1, k2) k1).take c) := put_take HCD.out HND.out HLM.out
          have HFS2 : Hid (Fst (putL d m (k1, k2) k1)) := HFS.out.put d (k1, k2)
          obtain ⟨l2, hl2⟩ : ∃ l2, l2 = putL c l (k1, k2) k1 := ⟨_, rfl⟩
          obtain ⟨m2, hm2⟩ : ∃ m2, m2 = putL d m (k1, k2) k1 := ⟨_, rfl⟩
          rw [← hl2, ← hm2] at HLM2
          rw [← hm2] at HFS2 HMx
          rw [← hl2] at HLx
          clear hl2 hm2
          go_wp2_with fail
          refine (keys_any x c F5 l2 w6 HLx.out).mono ?_
          rintro _ wK ⟨gk, rfl, hgk, hOK, hbK⟩
          have HLK : Hid (Lru wK x c F5 l2) := HLx.out.below hbK
          have HMK : Hid (Lru wK y d G6 m2) := HMx.out.below hbK
          have HBK : Hid (Below B W wK) := HB6.out.trans (hbK.mono (Nat.le_trans (Nat.le_of_eq HB.out) HB6.out.size))
          have HOK : Hid (OwnE wK gk (cellsE (l2.map (·.1)))) := hOK
          obtain ⟨ql, hql⟩ : ∃ ql, ql = l2.length := ⟨_, rfl⟩
          have HQL : Hid (ql = l2.length) := hql
          rw [← hql]
          clear hgk hOK hbK HLx HMx HB6 hql
          go_wp2_with fail
          refine (keys_any y d G6 m2 wK HMK.out).mono ?_
          rintro _ wM ⟨gm, rfl, hgm, hOM, hbM⟩
          have HLM3 : Hid (Lru wM x c F5 l2) := HLK.out.below hbM
          have HMM3 : Hid (Lru wM y d G6 m2) := HMK.out.below hbM
          have HBM : Hid (Below B W wM) := HBK.out.trans (hbM.mono (Nat.le_trans (Nat.le_of_eq HB.out) HBK.out.size))
          have hE1 : ESP wM (some ⟨gk, 0, none⟩) (l2.map (·.1)) := (OwnE.esp HOK.out).below hbM
          have hE2 : ESP wM (some ⟨gm, 0, none⟩) (l2.map (·.1)) := ESP.first hOM (take_prefix HLM2.out)
          obtain ⟨qm, hqm⟩ : ∃ qm, qm = m2.length := ⟨_, rfl⟩
          have HQM : Hid (qm = m2.length) := hqm
          rw [← hqm]
          have hlm1 : ql ≤ c := by rw [HQL.out]; exact HLM3.out.len.1
          have hlm2 : ql ≤ qm := by rw [HQL.out, HQM.out, HLM2.out, List.length_take]; omega
          have hlm3 : qm ≤ 4096 := by rw [HQM.out]; have := HMM3.out.len; omega
          have dq1 : decide ((c : Int) < (ql : Int)) = false := decide_eq_false (by omega)
          have dq2 : decide (c < ql) = false := decide_eq_false (by omega)
          have dq3 : decide ((qm : Int) < (ql : Int)) = false := decide_eq_false (by omega)
          have dq4 : decide (qm < ql) = false := decide_eq_false (by omega)
          have iq : 0 ≤ (ql : Int) ∧ (ql : Int) ≤ (qm : Int) := by omega
          have hsame := same_any (some ⟨gk, 0, none⟩) (some ⟨gm, 0, none⟩) ql qm (l2.map (·.1)) wM (by rw [List.length_map, ← HQL.out]; omega) hE1 hE2
          rw [List.length_map, ← HQL.out] at hsame
          clear hgm hOM hbM HLK HMK HBK HOK hE1 hE2 hqm
          go_wp2_with fail
          refine hsame.mono ?_
          rintro _ wS ⟨rfl, hbS⟩
          have HFIN : Hid (Lru wS x c F5 l2 ∧ Lru wS y d G6 m2 ∧ Below B W wS) := ⟨HLM3.out.below hbS, HMM3.out.below hbS, HBM.out.trans (hbS.mono (Nat.le_trans (Nat.le_of_eq HB.out) HBM.out.size))⟩
          clear hsame hbS HLM3 HMM3 HBM
          go_wp2_with fail
          go_roundw
          case rel => exact ⟨j + 1, l2, m2, F5, G6, by omega, by omega, by go_num, HFIN.out.1, HFIN.out.2.1, HFG.out, HF.out, HG'.out, HLM2.out, HFS2.out, HFIN.out.2.2⟩
          case measure => simp only [intOf]; omega
    · have hov : ¬ (j < n ∧ j < 100) := hlt
      clear hlt hL hM hFG hF hG hlm hfst hBr
      by_cases hjn2 : j < n
      · have dj1 : decide ((j : Int) < (n : Int)) = true := decide_eq_true (by omega)
        have dj2 : decide (j < n) = true := decide_eq_true (by omega)
        have dj3 : decide ((j : Int) < 100) = false := decide_eq_false (by omega)
        have dj4 : decide (j < 100) = false := decide_eq_false (by omega)
        clear hov
        go_wp2_with fail
        refine (T.known_any wr).mono ?_
        rintro _ wz ⟨rfl, hbz⟩
        go_wp2_with fail
        go_ret
        exact ⟨rfl, HBr.out.trans (hbz.mono (Nat.le_trans (Nat.le_of_eq HB.out) HBr.out.size))⟩
      · have dj1 : decide ((j : Int) < (n : Int)) = false := decide_eq_false (by omega)
        have dj2 : decide (j < n) = false := decide_eq_false (by omega)
        clear hov
        go_wp2_with fail
        refine (T.known_any wr).mono ?_
        rintro _ wz ⟨rfl, hbz⟩
        go_wp2_with fail
        go_ret
        exact ⟨rfl, HBr.out.trans (hbz.mono (Nat.le_trans (Nat.le_of_eq HB.out) HBr.out.size))⟩
end Go.Proofs.Ytafhgigkhbcnjaa.LU.K
