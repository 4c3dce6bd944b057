import Derived.Test.YtplmmamebfpcjaaGreatDoorJ14
import Derived.Deep.QuietTactic
import Derived.BigQuiet
import Derived.Test.YtplmmamebfpcjaaGreatDoorRows
import Derived.Test.YtplmmamebfpcjaaGreatDoorJ1
import Derived.WalkKit
import Derived.ProofKit
import Derived.WalkSpells
import Derived.WalkLawsBesides
import Derived.Test.YtplmmamebfpcjaaGreatDoorJ0
section
/- reader.magic: its contract. -/
namespace Go.Proofs.YtplmmamebfpcjaaGreatDoor
open Go.RowKit Go.Sort Go.Joins
set_option linter.unusedVariables false
set_option maxRecDepth 100000
theorem range4 : List.range 4 = [0, 1, 2, 3] := by decide
theorem magicP_some {l : List UInt8} {k : Nat} (hk : k < 4) (hb : ∀ j, j < k → l[j]? = magicL[j]?) (h : l[k]? ≠ magicL[k]?) : magicP l = some k := by
  unfold magicP
  rw [range4]
  rcases (show k = 0 ∨ k = 1 ∨ k = 2 ∨ k = 3 by omega) with rfl | rfl | rfl | rfl
  · simp only [List.find?_cons, decide_eq_true h]
  · have h0 := hb 0 (by omega)
    simp only [List.find?_cons, h0, decide_eq_true h]; rfl
  · have h0 := hb 0 (by omega)
    have h1 := hb 1 (by omega)
    simp only [List.find?_cons, h0, h1, decide_eq_true h]; rfl
  · have h0 := hb 0 (by omega)
    have h1 := hb 1 (by omega)
    have h2 := hb 2 (by omega)
    simp only [List.find?_cons, h0, h1, h2, decide_eq_true h]; rfl
theorem magicP_none {l : List UInt8} (hb : ∀ j, j < 4 → l[j]? = magicL[j]?) : magicP l = none := by
  unfold magicP
  rw [range4]
  have h0 := hb 0 (by omega)
  have h1 := hb 1 (by omega)
  have h2 := hb 2 (by omega)
  have h3 := hb 3 (by omega)
  simp only [List.find?_cons, h0, h1, h2, h3]; rfl
def MagicQ (w' : World) (g : Nat) (s : RS) (l : List UInt8) : Prop :=
  match magicP l with
  | none => Rx w' g s (.ok 4)
  | some i => RErr w' g s (i, 11)
theorem magicL_at {k : Nat} {m : UInt8} (hk : magicL[k]? = some m) : k < 4 := by
  have := (List.getElem?_eq_some_iff.1 hk).1
  simpa [magicL] using this
theorem head_le {l : List UInt8} {k : Nat} (hk : k ≤ 4) (hb : ∀ j, j < k → l[j]? = magicL[j]?) : k ≤ l.length := by
  rcases Nat.lt_or_ge l.length k with h | h
  · exfalso
    have h1 := hb l.length h
    rw [List.getElem?_eq_none (Nat.le_refl _)] at h1
    have h2 : l.length < magicL.length := by simp [magicL]; omega
    rw [List.getElem?_eq_getElem h2] at h1
    cases h1
  · exact h
theorem byte_eq {l : List UInt8} {k m : Nat} (hk : k < l.length) (hm : m < 256) (h : (l.getD k 0).toNat = m) : l[k]? = some (UInt8.ofNat m) := by
  rw [List.getD_eq_getElem?_getD, List.getElem?_eq_getElem hk] at h
  rw [List.getElem?_eq_getElem hk]
  simp only [Option.getD_some] at h
  rw [← h, UInt8.ofNat_toNat]
theorem byte_ne {l : List UInt8} {k m : Nat} (hk : k < l.length) (hm : m < 256) (h : (l.getD k 0).toNat ≠ m) : l[k]? ≠ some (UInt8.ofNat m) := by
  intro e
  apply h
  rw [List.getD_eq_getElem?_getD, e]
  simp
  omega
set_option maxHeartbeats 4000000 in
theorem magic_any (g p : Nat) (s : RS) (l : List UInt8) (w : World) (hr : Rx w g s (.ok p)) (hF : Fl w s l) :
    Calls Tryz.prog 63 #[.pointer (some ⟨g, 0, none⟩)] w fun e w' => e = .returned (.tuple #[]) ∧ But g w.heap.size w w' ∧ MagicQ w' g s l := by
  have hll := hF.lim
  have hn := hF.n
  have hbs := hF.at'
  have hR : Rx w g s (.ok p) := hr
  have c0 : w.cell? ⟨g, 0, none⟩ = some (.slice s.a l.length s.c) := by
    have h0 : w.cell? ⟨g, 0, none⟩ = some (.slice s.a s.n s.c) := RB.c0 (s := { s with p := p, no := none }) hr
    rw [h0, hn]
  have HR : Hid (Rx w g s (.ok p)) := hR
  have HBS : Hid (Oc.BS w s.a l) := hbs
  have f1 := Rx.free hr 1
  have c1 : w.cell? ⟨g, 1, none⟩ = some (.int .i64 (p : Nat)) := RB.c1 (s := { s with p := p, no := none }) hr
  have hle := hF.le
  clear hr hF hbs hR hn
  go_enter Tryz.func63, Tryz.ntmps63
  go_wp2_with fail
  go_loopw [3] (fun i wr => ∃ k : Nat, k ≤ 4 ∧ i = .int .i64 (k : Nat) ∧ (∀ j, j < k → l[j]? = magicL[j]?) ∧ ∃ m, wr = w.drewN m) (fun i _ => 4 - (intOf i).toNat)
  case atStart => exact ⟨0, by omega, rfl, fun j hj => by omega, 0, rfl⟩
  case round =>
    obtain ⟨k, hk, rfl, hm, m, rfl⟩ := hrel
    have HM : Hid (∀ j, j < k → l[j]? = magicL[j]?) := hm
    have hkl := head_le hk hm
    clear hm
    have b0 : Below w.heap.size w (w.drewN m) := below_drawn w m
    rcases (show k = 4 ∨ k = 0 ∨ k = 1 ∨ k = 2 ∨ k = 3 by omega) with rfl | rfl | rfl | rfl | rfl
    · go_wp2_with fail
      go_end0
      have hx : Rx (w.drewN m) g s (.ok p) := Rx.below HR.out b0
      refine ⟨rfl, (But.of_below b0).setCell 1 _, ?_⟩
      unfold MagicQ
      rw [magicP_none HM.out]
      exact RB.setP hx 4
    · rw [show (((0 : Nat)) : Int) = 0 from rfl]
      by_cases hl : l.length = 0
      · have e1 : ((0 : Int) == (l.length : Int)) = true := by rw [hl]; rfl
        have HL : Hid (l.length = 0) := hl
        clear hl
        go_wp2_with fail
        go_quiet (fail)
        go_wp2_with fail
        refine (refuse_any g { s with p := p, no := none } 0 11 _ (Rx.below HR.out (below_drawn w _))).mono ?_
        rintro e w1 ⟨rfl, h1, h2⟩
        go_wp2_with fail
        refine bodyPost_ret (v := .tuple #[]) (results_none rfl _ _ _) rfl ⟨rfl, (But.of_below (below_drawn w _)).trans (h2.mono (below_drawn w _).size), ?_⟩
        unfold MagicQ
        rw [magicP_some (k := 0) (by omega) HM.out (by rw [List.getElem?_eq_none (by rw [HL.out]; omega)]; simp [magicL])]
        exact h1
      · have e1 : ((0 : Int) == (l.length : Int)) = false := by simp; omega
        have hkl' : 0 < l.length := by omega
        have hkI : (0 : Int) < (l.length : Int) := by omega
        rcases HBS.out with h0 | ⟨b, off, ha, hc⟩
        · rw [h0] at hkl'; simp at hkl'
        · have cc := hc 0 hkl'
          rw [ha] at c0
          obtain ⟨c, hcc⟩ : ∃ c, c = (l.getD 0 0).toNat := ⟨_, rfl⟩
          rw [← hcc] at cc
          have HCC : Hid (c = (l.getD 0 0).toNat) := hcc
          rw [Nat.add_zero] at cc
          clear hcc hl hc
          go_wp2_with fail
          go_quiet (fail)
          go_wp2_with fail
          · have hcmp : ((c : Int) != (((({ data := #[66, 80, 69, 49] } : ByteArray)[0]'(by decide)).toNat : Nat) : Int)) = true := by assumption
            have HQ : Hid (c ≠ 66) := fun e => by rw [e] at hcmp; revert hcmp; decide
            refine (refuse_any g { s with p := p, no := none } 0 11 _ (Rx.below HR.out (below_drawn w _))).mono ?_
            rintro e w1 ⟨rfl, h1, h2⟩
            go_wp2_with fail
            refine bodyPost_ret (v := .tuple #[]) (results_none rfl _ _ _) rfl ⟨rfl, (But.of_below (below_drawn w _)).trans (h2.mono (below_drawn w _).size), ?_⟩
            unfold MagicQ
            rw [magicP_some (k := 0) (by omega) HM.out (byte_ne (m := 66) hkl' (by omega) (by rw [← HCC.out]; exact HQ.out))]
            exact h1
          · have hcmp : ((c : Int) != (((({ data := #[66, 80, 69, 49] } : ByteArray)[0]'(by decide)).toNat : Nat) : Int)) = false := by assumption
            have HQ : Hid (c = 66) := by
              have h5 : ((c : Int) = 66) := by
                have h6 : ((c : Int) != 66) = false := hcmp
                simpa using h6
              show c = 66
              omega
            have hrel2 : ∀ j : Nat, j < 1 → l[j]? = magicL[j]? := fun j hj => by
              by_cases hj2 : j < 0
              · exact HM.out j hj2
              · obtain rfl : j = 0 := by omega
                rw [byte_eq (m := 66) hkl' (by omega) (by rw [← HCC.out, HQ.out])]
                rfl
            exact ⟨⟨1, by omega, rfl, hrel2, _, rfl⟩, by simp only [intOf]; decide⟩
    · rw [show (((1 : Nat)) : Int) = 1 from rfl]
      by_cases hl : l.length = 1
      · have e1 : ((1 : Int) == (l.length : Int)) = true := by rw [hl]; rfl
        have HL : Hid (l.length = 1) := hl
        clear hl
        go_wp2_with fail
        go_quiet (fail)
        go_wp2_with fail
        refine (refuse_any g { s with p := p, no := none } 1 11 _ (Rx.below HR.out (below_drawn w _))).mono ?_
        rintro e w1 ⟨rfl, h1, h2⟩
        go_wp2_with fail
        refine bodyPost_ret (v := .tuple #[]) (results_none rfl _ _ _) rfl ⟨rfl, (But.of_below (below_drawn w _)).trans (h2.mono (below_drawn w _).size), ?_⟩
        unfold MagicQ
        rw [magicP_some (k := 1) (by omega) HM.out (by rw [List.getElem?_eq_none (by rw [HL.out]; omega)]; simp [magicL])]
        exact h1
      · have e1 : ((1 : Int) == (l.length : Int)) = false := by simp; omega
        have hkl' : 1 < l.length := by omega
        have hkI : (1 : Int) < (l.length : Int) := by omega
        rcases HBS.out with h0 | ⟨b, off, ha, hc⟩
        · rw [h0] at hkl'; simp at hkl'
        · have cc := hc 1 hkl'
          rw [ha] at c0
          obtain ⟨c, hcc⟩ : ∃ c, c = (l.getD 1 0).toNat := ⟨_, rfl⟩
          rw [← hcc] at cc
          have HCC : Hid (c = (l.getD 1 0).toNat) := hcc
          skip
          clear hcc hl hc
          go_wp2_with fail
          go_quiet (fail)
          go_wp2_with fail
          · have hcmp : ((c : Int) != (((({ data := #[66, 80, 69, 49] } : ByteArray)[1]'(by decide)).toNat : Nat) : Int)) = true := by assumption
            have HQ : Hid (c ≠ 80) := fun e => by rw [e] at hcmp; revert hcmp; decide
            refine (refuse_any g { s with p := p, no := none } 1 11 _ (Rx.below HR.out (below_drawn w _))).mono ?_
            rintro e w1 ⟨rfl, h1, h2⟩
            go_wp2_with fail
            refine bodyPost_ret (v := .tuple #[]) (results_none rfl _ _ _) rfl ⟨rfl, (But.of_below (below_drawn w _)).trans (h2.mono (below_drawn w _).size), ?_⟩
            unfold MagicQ
            rw [magicP_some (k := 1) (by omega) HM.out (byte_ne (m := 80) hkl' (by omega) (by rw [← HCC.out]; exact HQ.out))]
            exact h1
          · have hcmp : ((c : Int) != (((({ data := #[66, 80, 69, 49] } : ByteArray)[1]'(by decide)).toNat : Nat) : Int)) = false := by assumption
            have HQ : Hid (c = 80) := by
              have h5 : ((c : Int) = 80) := by
                have h6 : ((c : Int) != 80) = false := hcmp
                simpa using h6
              show c = 80
              omega
            have hrel2 : ∀ j : Nat, j < 2 → l[j]? = magicL[j]? := fun j hj => by
              by_cases hj2 : j < 1
              · exact HM.out j hj2
              · obtain rfl : j = 1 := by omega
                rw [byte_eq (m := 80) hkl' (by omega) (by rw [← HCC.out, HQ.out])]
                rfl
            exact ⟨⟨2, by omega, rfl, hrel2, _, rfl⟩, by simp only [intOf]; decide⟩
    · rw [show (((2 : Nat)) : Int) = 2 from rfl]
      by_cases hl : l.length = 2
      · have e1 : ((2 : Int) == (l.length : Int)) = true := by rw [hl]; rfl
        have HL : Hid (l.length = 2) := hl
        clear hl
        go_wp2_with fail
        go_quiet (fail)
        go_wp2_with fail
        refine (refuse_any g { s with p := p, no := none } 2 11 _ (Rx.below HR.out (below_drawn w _))).mono ?_
        rintro e w1 ⟨rfl, h1, h2⟩
        go_wp2_with fail
        refine bodyPost_ret (v := .tuple #[]) (results_none rfl _ _ _) rfl ⟨rfl, (But.of_below (below_drawn w _)).trans (h2.mono (below_drawn w _).size), ?_⟩
        unfold MagicQ
        rw [magicP_some (k := 2) (by omega) HM.out (by rw [List.getElem?_eq_none (by rw [HL.out]; omega)]; simp [magicL])]
        exact h1
      · have e1 : ((2 : Int) == (l.length : Int)) = false := by simp; omega
        have hkl' : 2 < l.length := by omega
        have hkI : (2 : Int) < (l.length : Int) := by omega
        rcases HBS.out with h0 | ⟨b, off, ha, hc⟩
        · rw [h0] at hkl'; simp at hkl'
        · have cc := hc 2 hkl'
          rw [ha] at c0
          obtain ⟨c, hcc⟩ : ∃ c, c = (l.getD 2 0).toNat := ⟨_, rfl⟩
          rw [← hcc] at cc
          have HCC : Hid (c = (l.getD 2 0).toNat) := hcc
          skip
          clear hcc hl hc
          go_wp2_with fail
          go_quiet (fail)
          go_wp2_with fail
          · have hcmp : ((c : Int) != (((({ data := #[66, 80, 69, 49] } : ByteArray)[2]'(by decide)).toNat : Nat) : Int)) = true := by assumption
            have HQ : Hid (c ≠ 69) := fun e => by rw [e] at hcmp; revert hcmp; decide
            refine (refuse_any g { s with p := p, no := none } 2 11 _ (Rx.below HR.out (below_drawn w _))).mono ?_
            rintro e w1 ⟨rfl, h1, h2⟩
            go_wp2_with fail
            refine bodyPost_ret (v := .tuple #[]) (results_none rfl _ _ _) rfl ⟨rfl, (But.of_below (below_drawn w _)).trans (h2.mono (below_drawn w _).size), ?_⟩
            unfold MagicQ
            rw [magicP_some (k := 2) (by omega) HM.out (byte_ne (m := 69) hkl' (by omega) (by rw [← HCC.out]; exact HQ.out))]
            exact h1
          · have hcmp : ((c : Int) != (((({ data := #[66, 80, 69, 49] } : ByteArray)[2]'(by decide)).toNat : Nat) : Int)) = false := by assumption
            have HQ : Hid (c = 69) := by
              have h5 : ((c : Int) = 69) := by
                have h6 : ((c : Int) != 69) = false := hcmp
                simpa using h6
              show c = 69
              omega
            have hrel2 : ∀ j : Nat, j < 3 → l[j]? = magicL[j]? := fun j hj => by
              by_cases hj2 : j < 2
              · exact HM.out j hj2
              · obtain rfl : j = 2 := by omega
                rw [byte_eq (m := 69) hkl' (by omega) (by rw [← HCC.out, HQ.out])]
                rfl
            exact ⟨⟨3, by omega, rfl, hrel2, _, rfl⟩, by simp only [intOf]; decide⟩
    · rw [show (((3 : Nat)) : Int) = 3 from rfl]
      by_cases hl : l.length = 3
      · have e1 : ((3 : Int) == (l.length : Int)) = true := by rw [hl]; rfl
        have HL : Hid (l.length = 3) := hl
        clear hl
        go_wp2_with fail
        go_quiet (fail)
        go_wp2_with fail
        refine (refuse_any g { s with p := p, no := none } 3 11 _ (Rx.below HR.out (below_drawn w _))).mono ?_
        rintro e w1 ⟨rfl, h1, h2⟩
        go_wp2_with fail
        refine bodyPost_ret (v := .tuple #[]) (results_none rfl _ _ _) rfl ⟨rfl, (But.of_below (below_drawn w _)).trans (h2.mono (below_drawn w _).size), ?_⟩
        unfold MagicQ
        rw [magicP_some (k := 3) (by omega) HM.out (by rw [List.getElem?_eq_none (by rw [HL.out]; omega)]; simp [magicL])]
        exact h1
      · have e1 : ((3 : Int) == (l.length : Int)) = false := by simp; omega
        have hkl' : 3 < l.length := by omega
        have hkI : (3 : Int) < (l.length : Int) := by omega
        rcases HBS.out with h0 | ⟨b, off, ha, hc⟩
        · rw [h0] at hkl'; simp at hkl'
        · have cc := hc 3 hkl'
          rw [ha] at c0
          obtain ⟨c, hcc⟩ : ∃ c, c = (l.getD 3 0).toNat := ⟨_, rfl⟩
          rw [← hcc] at cc
          have HCC : Hid (c = (l.getD 3 0).toNat) := hcc
          skip
          clear hcc hl hc
          go_wp2_with fail
          go_quiet (fail)
          go_wp2_with fail
          · have hcmp : ((c : Int) != (((({ data := #[66, 80, 69, 49] } : ByteArray)[3]'(by decide)).toNat : Nat) : Int)) = true := by assumption
            have HQ : Hid (c ≠ 49) := fun e => by rw [e] at hcmp; revert hcmp; decide
            refine (refuse_any g { s with p := p, no := none } 3 11 _ (Rx.below HR.out (below_drawn w _))).mono ?_
            rintro e w1 ⟨rfl, h1, h2⟩
            go_wp2_with fail
            refine bodyPost_ret (v := .tuple #[]) (results_none rfl _ _ _) rfl ⟨rfl, (But.of_below (below_drawn w _)).trans (h2.mono (below_drawn w _).size), ?_⟩
            unfold MagicQ
            rw [magicP_some (k := 3) (by omega) HM.out (byte_ne (m := 49) hkl' (by omega) (by rw [← HCC.out]; exact HQ.out))]
            exact h1
          · have hcmp : ((c : Int) != (((({ data := #[66, 80, 69, 49] } : ByteArray)[3]'(by decide)).toNat : Nat) : Int)) = false := by assumption
            have HQ : Hid (c = 49) := by
              have h5 : ((c : Int) = 49) := by
                have h6 : ((c : Int) != 49) = false := hcmp
                simpa using h6
              show c = 49
              omega
            have hrel2 : ∀ j : Nat, j < 4 → l[j]? = magicL[j]? := fun j hj => by
              by_cases hj2 : j < 3
              · exact HM.out j hj2
              · obtain rfl : j = 3 := by omega
                rw [byte_eq (m := 49) hkl' (by omega) (by rw [← HCC.out, HQ.out])]
                rfl
            exact ⟨⟨4, by omega, rfl, hrel2, _, rfl⟩, by simp only [intOf]; decide⟩
end Go.Proofs.YtplmmamebfpcjaaGreatDoor
end
section
/- octet.halfSteps: its table is the four steps of each half byte. -/
namespace Go.Proofs.YtplmmamebfpcjaaGreatDoor.Oc
set_option maxRecDepth 100000
open Go.RowKit
set_option maxHeartbeats 800000 in
theorem half_any (w : World) : Calls Tryz.prog 62 #[] w fun e w' => e = .returned (.agg tabL) ∧ Below w.heap.size w w' := by
  go_enter Tryz.func62, Tryz.ntmps62
  go_wp2
  go_loopw [5] (fun i wr => ∃ (k : Nat) (T : Array Value), k ≤ 16 ∧ i = .int .i64 k ∧ T = tabA k ∧ wr = (w.alloc (.cells #[Value.int IntKind.u32 0, Value.int IntKind.u32 0, Value.int IntKind.u32 0, Value.int IntKind.u32 0,
          Value.int IntKind.u32 0, Value.int IntKind.u32 0, Value.int IntKind.u32 0, Value.int IntKind.u32 0,
          Value.int IntKind.u32 0, Value.int IntKind.u32 0, Value.int IntKind.u32 0, Value.int IntKind.u32 0,
          Value.int IntKind.u32 0, Value.int IntKind.u32 0, Value.int IntKind.u32 0, Value.int IntKind.u32 0] 119)).alloc (.cells T 119)) (fun i _ => 16 - (intOf i).toNat)
  case atStart => exact ⟨0, _, Nat.zero_le _, rfl, tabA_zero.symm, rfl⟩
  case round =>
    obtain ⟨k, T, hk, rfl, hT, rfl⟩ := hrel
    have HT : Hid (T = tabA k) := hT
    clear hT
    by_cases hlt : k < 16
    · go_wp2
      go_loop [3, 10] (fun n j => ∃ q : Nat, q ≤ 4 ∧ j = .int .i64 q ∧ ∃ m : Nat, n = .int .u32 m ∧ m = hsN q k) (fun _ j => 4 - (intOf j).toNat)
      case atStart => exact ⟨0, Nat.zero_le _, rfl, k, by go_num, rfl⟩
      case round =>
        obtain ⟨q, hq, rfl, m, rfl, hm⟩ := hrel
        have hb := hsN_lt q k (by omega)
        rw [← hm] at hb
        have HM : Hid (m = hsN q k) := hm
        clear hm
        by_cases hq4 : q < 4
        · by_cases hodd : m % 2 = 1
          · have hat := odd_in m hb hodd
            have HB : Hid (m < 4294967296) := hb
            clear hb
            go_wp2
            exact ⟨⟨q + 1, by omega, by go_num, _, int_eq (odd_out m HB.out hodd), by rw [HM.out]; rfl⟩, by simp [intOf]; omega⟩
          · have hat := even_in m hb hodd
            have HB : Hid (m < 4294967296) := hb
            clear hb
            go_wp2
            exact ⟨⟨q + 1, by omega, by go_num, _, int_eq (even_out m hodd), by rw [HM.out]; rfl⟩, by simp [intOf]; omega⟩
        · clear hb
          have hq4' : q = 4 := by omega
          subst hq4'
          have hsz : T.size = 16 := by rw [HT.out]; exact tabA_size k
          go_wp2
          exact ⟨⟨k + 1, _, by omega, by go_num, by rw [HT.out, HM.out]; exact tabA_set k hlt, rfl⟩, by simp [intOf]; omega⟩
    · have hk16 : k = 16 := by omega
      subst hk16
      have hT16 : T = tabL := HT.out.trans tabL_eq
      clear HT
      subst hT16
      unfold tabL
      go_wp2
      refine bodyPost_ret (v := .agg tabL) ?_ rfl ⟨rfl, ((Below.refl _ _).alloc (Nat.le_refl _) _).alloc (by simp) _⟩
      simp [results, Tryz.results62, go_sem, tabL]
end Go.Proofs.YtplmmamebfpcjaaGreatDoor.Oc
end
section
/- octet.Sum: its contract: the sum of the bytes; only new memory is made. -/
namespace Go.Proofs.YtplmmamebfpcjaaGreatDoor.Oc
set_option maxRecDepth 100000
open Go.RowKit
theorem sum_step (x : Nat) : hsN 8 x = ((x / 16 ^^^ hsN 4 (x % 16)) / 16) ^^^ hsN 4 ((x / 16 ^^^ hsN 4 (x % 16)) % 16) := by
  rw [show (8 : Nat) = 4 + 4 from rfl, hsN_add, ← hs4 x, ← hs4]
theorem half_lit (w : World) : Calls Tryz.prog 62 #[] w fun e w' => e = .returned (.agg #[Value.int IntKind.u32 0x00000000, Value.int IntKind.u32 0x1db71064, Value.int IntKind.u32 0x3b6e20c8, Value.int IntKind.u32 0x26d930ac, Value.int IntKind.u32 0x76dc4190, Value.int IntKind.u32 0x6b6b51f4, Value.int IntKind.u32 0x4db26158, Value.int IntKind.u32 0x5005713c, Value.int IntKind.u32 0xedb88320, Value.int IntKind.u32 0xf00f9344, Value.int IntKind.u32 0xd6d6a3e8, Value.int IntKind.u32 0xcb61b38c, Value.int IntKind.u32 0x9b64c2b0, Value.int IntKind.u32 0x86d3d2d4, Value.int IntKind.u32 0xa00ae278, Value.int IntKind.u32 0xbdbdf21c]) ∧ Below w.heap.size w w' := half_any w
set_option maxHeartbeats 800000 in
theorem sum_some (b off cap : Nat) (l : List UInt8) (w : World) (hlen : l.length ≤ 9223372036854775807) (hc : ∀ j, j < l.length → w.cell? ⟨b, off + j, none⟩ = some (.int .u8 ((l.getD j 0).toNat : Int))) :
    Calls Tryz.prog 34 #[.slice (some ⟨b, off, none⟩) l.length cap] w fun e w' => e = .returned (.int .u32 (crc l : Nat)) ∧ Below w.heap.size w w' := by
  go_enter Tryz.func34, Tryz.ntmps34
  go_wp2_with (go_at_call 62; refine (half_lit _).mono ?_; rintro e w1 ⟨rfl, hb1⟩)
  obtain ⟨W, hW⟩ : ∃ W, W = w1.alloc (.cells tabL 119) := ⟨_, rfl⟩
  have hT : ∀ m, m < 16 → W.cell? ⟨w1.heap.size, m, none⟩ = some (.int .u32 (hsN 4 m : Nat)) := by
    intro m hm; rw [hW, World.cell?_alloc_at _ _ _ _ rfl]; exact tabL_get m hm
  have hbW : Below w.heap.size w W := by rw [hW]; exact hb1.alloc hb1.size _
  have hcW : ∀ j, j < l.length → W.cell? ⟨b, off + j, none⟩ = some (.int .u8 ((l.getD j 0).toNat : Int)) := fun j hj => by
    rw [hbW.cell (World.block_lt_of_cell? w _ (hc j hj))]; exact hc j hj
  unfold tabL at hW
  rw [← hW]
  obtain ⟨g, hg⟩ : ∃ g, g = w1.heap.size := ⟨_, rfl⟩
  rw [← hg] at hT ⊢
  clear hW hb1 hg hc
  go_loop [4, 10] (fun r i => ∃ (k n : Nat), k ≤ l.length ∧ i = .int .i64 k ∧ r = .int .u32 n ∧ n = crcR 4294967295 (l.take k)) (fun _ i => l.length - (intOf i).toNat)
  case atStart => exact ⟨0, 4294967295, Nat.zero_le _, rfl, rfl, rfl⟩
  case round =>
    obtain ⟨k, n, hk, rfl, rfl, hn⟩ := hrel
    have hnb : n < 4294967296 := by rw [hn]; exact crcR_lt _ _ (by omega)
    by_cases hlt : k < l.length
    · obtain ⟨c, hcd⟩ : ∃ c : Nat, c = (l.getD k 0).toNat := ⟨_, rfl⟩
      have hcell := hcW k hlt
      rw [← hcd] at hcell
      have hcb : c < 256 := by rw [hcd]; exact UInt8.toNat_lt _
      obtain ⟨x, hx⟩ : ∃ x : Nat, x = n ^^^ c := ⟨_, rfl⟩
      have hxb : x < 4294967296 := by rw [hx]; exact Nat.xor_lt_two_pow (n := 32) hnb (by omega)
      have e1 : bits BinOp.xor IntKind.u32 (n : Int) (c : Int) = (x : Int) := by rw [hx]; exact u32_xor_nat n c hnb (by omega)
      have e2 := and15 x hxb
      have t1 := hT (x % 16) (by omega)
      have hyb : x / 16 ^^^ hsN 4 (x % 16) < 4294967296 := by rw [← hs4]; exact hsN_lt _ _ hxb
      have e3 := u32_xor_nat (x / 16) (hsN 4 (x % 16)) (by omega) (hsN_lt _ _ (by omega))
      have hst := sum_step x
      obtain ⟨s1, hs1'⟩ : ∃ s, s = hsN 4 (x % 16) := ⟨_, rfl⟩
      rw [← hs1'] at t1 e3 hyb hst
      obtain ⟨y, hy⟩ : ∃ y, y = x / 16 ^^^ s1 := ⟨_, rfl⟩
      rw [← hy] at e3 hyb hst
      have e4 := and15 y hyb
      have t2 := hT (y % 16) (by omega)
      have e5 := u32_xor_nat (y / 16) (hsN 4 (y % 16)) (by omega) (hsN_lt _ _ (by omega))
      obtain ⟨s2, hs2⟩ : ∃ s, s = hsN 4 (y % 16) := ⟨_, rfl⟩
      rw [← hs2] at t2 e5 hst
      have hnext : y / 16 ^^^ s2 = crcR 4294967295 (l.take (k + 1)) := by
        rw [crcR_snoc _ _ _ hlt, ← hn, ← hcd, ← hx]; exact hst.symm
      rw [show ((x / 16 : Nat) : Int) = (x : Int) / 16 from by omega] at e3
      rw [show ((y / 16 : Nat) : Int) = (y : Int) / 16 from by omega] at e5
      rw [show ((x % 16 : Nat) : Int) = (x : Int) % 16 from by omega] at e2
      rw [show ((y % 16 : Nat) : Int) = (y : Int) % 16 from by omega] at e4
      rw [hnext] at e5
      clear hnb hxb hyb hn hx hcd hs1' hy hs2 hst hnext hT hcW
      go_wp2
      exact ⟨⟨k + 1, _, by omega, by go_num, rfl, rfl⟩, by simp [intOf]; omega⟩
    · have hkl : k = l.length := by omega
      subst hkl
      rw [List.take_length] at hn
      have HB : Hid (n < 4294967296) := hnb
      have HN : Hid (n = crcR 4294967295 l) := hn
      clear hnb hn hT hcW
      go_wp2
      go_ret
      refine ⟨?_, hbW⟩
      have := u32_xor_nat 4294967295 n (by omega) HB.out
      rw [show IntKind.u32.max = ((4294967295 : Nat) : Int) from rfl, this, HN.out]
      rfl
theorem sum_none (a : Option Addr) (cap : Nat) (w : World) :
    Calls Tryz.prog 34 #[.slice a 0 cap] w fun e w' => e = .returned (.int .u32 0) ∧ Below w.heap.size w w' := by
  go_enter Tryz.func34, Tryz.ntmps34
  go_wp2_with (go_at_call 62; refine (half_lit _).mono ?_; rintro e w1 ⟨rfl, hb1⟩)
  refine wp_loop_rounds 1 ?_
  rw [rounds_succ]
  go_wp2
  go_ret
  exact ⟨rfl, hb1.alloc hb1.size _⟩
/-- THE CONTRACT: of any list of bytes. -/
theorem sum_any (a : Option Addr) (cap : Nat) (l : List UInt8) (w : World) (hlen : l.length ≤ 9223372036854775807) (h : BS w a l) :
    Calls Tryz.prog 34 #[.slice a l.length cap] w fun e w' => e = .returned (.int .u32 (crc l : Nat)) ∧ Below w.heap.size w w' := by
  rcases h with rfl | ⟨b, off, rfl, hc⟩
  · exact sum_none a cap w
  · exact sum_some b off cap l w hlen hc
end Go.Proofs.YtplmmamebfpcjaaGreatDoor.Oc
end
section
/- reader.sum: its contract. -/
namespace Go.Proofs.YtplmmamebfpcjaaGreatDoor
open Go.RowKit Go.Sort Go.Joins
set_option linter.unusedVariables false
set_option maxRecDepth 100000
def SumQ (w' : World) (g : Nat) (s : RS) (p : Nat) (x : Except Er Unit) : Prop :=
  match x with
  | .ok _ => Rx w' g s (.ok (p + 4))
  | .error e => RErr w' g s e
set_option maxHeartbeats 1000000 in
theorem sum_bad (g : Nat) (s : RS) (r : Er) (w : World) (h : RErr w g s r) :
    Calls Tryz.prog 67 #[.pointer (some ⟨g, 0, none⟩)] w fun e w' => e = .returned (.tuple #[]) ∧ w' = w := by
  have hN := number_bad g s r 0 4294967295 0 w h
  obtain ⟨p, N, h1, h3, h4⟩ := h
  have x1 := h1.c1
  have x2 := h1.c2
  clear h1 h4
  go_enter Tryz.func67, Tryz.ntmps67
  go_wp2_with fail
  refine hN.mono ?_
  rintro e w1 ⟨rfl, rfl⟩
  go_wp2_with fail
  go_end0
  exact ⟨rfl, rfl⟩
set_option maxHeartbeats 4000000 in
theorem sum_ok (g p : Nat) (s : RS) (l : List UInt8) (w : World) (hr : Rx w g s (.ok p)) (hF : Fl w s l) (hw : ∃ w0 : World, Below w0.heap.size w0 w ∧ Oc.BS w0 s.a l ∧ w0.heap.size ≤ g) :
    Calls Tryz.prog 67 #[.pointer (some ⟨g, 0, none⟩)] w fun e w' => e = .returned (.tuple #[]) ∧ But g w.heap.size w w' ∧ SumQ w' g s p (sumP l p) := by
  have hgl : g < w.heap.size := RB.lt hr
  have hll := hF.lim
  have hle := hF.le
  have HN := number_uni g s l (.ok p) 0 4294967295 0 w (by omega) (by omega) hr hF
  have x1 : w.cell? ⟨g, 1, none⟩ = some (.int .i64 (p : Nat)) := RB.c1 (s := { s with p := p, no := none }) hr
  have HFn : Hid (s.n = l.length) := hF.n
  have HF0 : Hid (Fl w s l) := hF
  have HW0 : Hid (∃ w0 : World, Below w0.heap.size w0 w ∧ Oc.BS w0 s.a l ∧ w0.heap.size ≤ g) := hw
  clear hr hF hw
  unfold sumP
  cases hx : numP l 0 4294967295 0 p with
  | error r =>
    rw [numX_no hx] at HN
    simp only [andP] at HN ⊢
    go_enter Tryz.func67, Tryz.ntmps67
    go_wp2_with fail
    refine HN.mono ?_
    rintro e w1 ⟨rfl, h1, h2⟩
    have hr := h1
    obtain ⟨p1, N, k1, k3, k4⟩ := h1
    have x2 := k1.c2
    clear k1 k4 HN x1
    go_wp2_with fail
    go_end0
    exact ⟨rfl, h2, hr⟩
  | ok k =>
    obtain ⟨n, q⟩ := k
    obtain ⟨i1, rfl, i2, i3, i4⟩ := numP_inv hx
    rw [numX_ok hx] at HN
    simp only [andP] at HN ⊢
    have HI : Hid (n = Oc.num4 l p) := i2
    clear i2 hx
    have pre : ∀ w1, Rx w1 g s (.ok (p + 4)) → But g w.heap.size w w1 → w1.cell? ⟨g, 0, none⟩ = some (.slice s.a l.length s.c) ∧ w1.cell? ⟨g, 1, none⟩ = some (.int .i64 ((p + 4 : Nat))) ∧ w1.cell? ⟨g, 2, none⟩ = some (.pointer none) := fun w1 h1 h2 => by
      refine ⟨?_, RB.c1 (s := { s with p := p + 4, no := none }) h1, RB.c2 (s := { s with p := p + 4, no := none }) h1⟩
      have h0 : w1.cell? ⟨g, 0, none⟩ = some (.slice s.a s.n s.c) := RB.c0 (s := { s with p := p + 4, no := none }) h1
      rw [h0, HFn.out]
    by_cases hq : p + 4 < l.length
    · rw [if_pos hq]
      have hqI : ((p + 4 : Nat) : Int) < (l.length : Int) := by omega
      go_enter Tryz.func67, Tryz.ntmps67
      go_wp2_with fail
      refine HN.mono ?_
      rintro e w1 ⟨rfl, h1, h2⟩
      obtain ⟨c0, c1, c2⟩ := pre w1 h1 h2
      have H1 : Hid (Rx w1 g s (.ok (p + 4))) := h1
      clear HN x1 h1 pre
      go_wp2_with fail
      go_quiet (fail)
      go_wp2_with fail
      refine (refuse_any g { s with p := p + 4, no := none } (p + 4) 13 _ (Rx.below H1.out (below_drawn w1 _))).mono ?_
      rintro e w2 ⟨rfl, h3, h4⟩
      go_wp2_with fail
      go_end0
      exact ⟨rfl, (h2.trans (But.of_below ((below_drawn w1 _).mono h2.size))).trans (h4.mono (Nat.le_trans h2.size (below_drawn w1 _).size)), h3⟩
    · rw [if_neg hq]
      have hqI : ¬ ((p + 4 : Nat) : Int) < (l.length : Int) := by omega
      have hS := fun wx (hb : Oc.BS wx s.a l) => Oc.sum_any s.a s.c (l.take p) wx (by simp; omega) (hb.take p)
      have hpl : (l.take p).length = p := by simp; omega
      rw [hpl] at hS
      have hcl := Oc.crc_lt (l.take p)
      obtain ⟨cr, hcr⟩ : ∃ cr, cr = Oc.crc (l.take p) := ⟨_, rfl⟩
      rw [← hcr] at hS hcl ⊢
      have hp1 : (0 : Int) ≤ (p : Int) := by omega
      have hp2 : (p : Int) ≤ (s.c : Int) := by omega
      by_cases hc : n = cr
      · rw [if_neg (by simpa using hc)]
        have e2 : ((n : Int) == (cr : Int)) = true := by simp; omega
        go_enter Tryz.func67, Tryz.ntmps67
        go_wp2_with fail
        refine HN.mono ?_
        rintro e w1 ⟨rfl, h1, h2⟩
        obtain ⟨c0, c1, c2⟩ := pre w1 h1 h2
        have H1 : Hid (Rx w1 g s (.ok (p + 4))) := h1
        have hbs1 := (HF0.out.step HW0.out h2 hgl).at'
        clear HN x1 h1 pre
        go_wp2_with fail
        go_quiet (fail)
        go_wp2_with fail
        refine (hS _ (hbs1.below (below_drawn w1 _))).mono ?_
        rintro e w2 ⟨rfl, hb2⟩
        have B2 : Below w1.heap.size w1 w2 := (below_drawn w1 _).trans (hb2.mono (below_drawn w1 _).size)
        have H2 : Hid (Rx w2 g s (.ok (p + 4))) := Rx.below H1.out B2
        clear hS hbs1 hb2 c0 c1 c2
        go_wp2_with fail
        go_end0
        exact ⟨rfl, h2.trans (But.of_below (B2.mono h2.size)), H2.out⟩
      · rw [if_pos hc]
        have e2 : ((n : Int) == (cr : Int)) = false := by simp; omega
        go_enter Tryz.func67, Tryz.ntmps67
        go_wp2_with fail
        refine HN.mono ?_
        rintro e w1 ⟨rfl, h1, h2⟩
        obtain ⟨c0, c1, c2⟩ := pre w1 h1 h2
        have H1 : Hid (Rx w1 g s (.ok (p + 4))) := h1
        have hbs1 := (HF0.out.step HW0.out h2 hgl).at'
        clear HN x1 h1 pre
        go_wp2_with fail
        go_quiet (fail)
        go_wp2_with fail
        refine (hS _ (hbs1.below (below_drawn w1 _))).mono ?_
        rintro e w2 ⟨rfl, hb2⟩
        have B2 : Below w1.heap.size w1 w2 := (below_drawn w1 _).trans (hb2.mono (below_drawn w1 _).size)
        have H2 : Hid (Rx w2 g s (.ok (p + 4))) := Rx.below H1.out B2
        clear hS hbs1 hb2 c0 c1 c2
        go_wp2_with fail
        refine (refuse_any g { s with p := p + 4, no := none } p 12 w2 H2.out).mono ?_
        rintro e w3 ⟨rfl, h3, h4⟩
        go_wp2_with fail
        go_end0
        exact ⟨rfl, (h2.trans (But.of_below (B2.mono h2.size))).trans (h4.mono (Nat.le_trans h2.size B2.size)), h3⟩
end Go.Proofs.YtplmmamebfpcjaaGreatDoor
end
section
/- The reader, stage by stage: what it holds behind each. -/
namespace Go.Proofs.YtplmmamebfpcjaaGreatDoor
open Go.RowKit Go.Sort Go.Joins
set_option linter.unusedVariables false
set_option maxRecDepth 100000
/-- The same bytes. -/
structure Fix (s s' : RS) : Prop where
  a : s'.a = s.a
  n : s'.n = s.n
  c : s'.c = s.c
theorem SameF.fix {s s' : RS} (h : SameF s s') : Fix s s' := ⟨h.a, h.n, h.c⟩
theorem Fix.trans {s t u : RS} (h : Fix s t) (k : Fix t u) : Fix s u := ⟨k.a.trans h.a, k.n.trans h.n, k.c.trans h.c⟩
def Nil (v : Value) : Prop := v = .slice none 0 0
def ErrSt (w : World) (g : Nat) (e : Er) : Prop := ∃ s', RErr w g s' e ∧ ∃ x m k, s'.W = .slice x m k
/-- A stage: what was read, or the refusal. -/
def St {α : Type} (x : Except Er α) (D : World → α → Prop) (g : Nat) (w : World) : Prop :=
  match x with
  | .ok a => D w a
  | .error e => ErrSt w g e
structure Ctx (w0 w : World) (g B : Nat) (s : RS) (l : List UInt8) : Prop where
  n : s.n = l.length
  le : l.length ≤ s.c
  lim : l.length ≤ 4194304
  bs : Oc.BS w0 s.a l
  below : Below w0.heap.size w0 w
  w0g : w0.heap.size ≤ g
  gB : g < B
  B : B ≤ w.heap.size
theorem Ctx.but {w0 w w1 : World} {g B : Nat} {s : RS} {l : List UInt8} (h : Ctx w0 w g B s l) (hb : But g w.heap.size w w1) : Ctx w0 w1 g B s l :=
  ⟨h.n, h.le, h.lim, h.bs, h.below.trans (hb.below (B' := w0.heap.size) h.below.size h.w0g), h.w0g, h.gB, Nat.le_trans h.B hb.size⟩
theorem Ctx.set {w0 w : World} {g B : Nat} {s : RS} {l : List UInt8} (h : Ctx w0 w g B s l) (o : Nat) (v : Value) : Ctx w0 (w.setCell ⟨g, o, none⟩ v) g B s l :=
  h.but ((But.refl _ _ _).setCell o v)
theorem Ctx.fl {w0 w : World} {g B : Nat} {s s' : RS} {l : List UInt8} (h : Ctx w0 w g B s l) (hf : Fix s s') : Fl w s' l :=
  ⟨hf.n.trans h.n, by rw [hf.c]; exact h.le, h.lim, by rw [hf.a]; exact h.bs.below h.below⟩
theorem Ctx.cx {w0 w : World} {g B : Nat} {s s' : RS} {l : List UInt8} (h : Ctx w0 w g B s l) (hf : Fix s s') : ∃ w0 : World, Below w0.heap.size w0 w ∧ Oc.BS w0 s'.a l ∧ w0.heap.size ≤ g := ⟨w0, h.below, by rw [hf.a]; exact h.bs, h.w0g⟩
section
variable (g B : Nat) (s : RS)
def D0 (w : World) (q : Nat) : Prop := ∃ s', Rx w g s' (.ok q) ∧ Fix s s' ∧ Nil s'.W ∧ Nil s'.M ∧ Nil (s'.P 1) ∧ Nil (s'.P 2) ∧ Nil (s'.P 3) ∧ Nil (s'.P 4) ∧ Nil (s'.P 5)
def D1 (w : World) (x : List (ByteArray × Nat) × Nat) : Prop := ∃ s', Rx w g s' (.ok x.2) ∧ Fix s s' ∧ RowW w B s'.W (x.1.map Prod.fst) ∧ RowI w B (s'.P 4) (x.1.map Prod.snd) ∧ Nil s'.M ∧ Nil (s'.P 1) ∧ Nil (s'.P 2) ∧ Nil (s'.P 3) ∧ Nil (s'.P 5)
def D2 (w : World) (x : (List (ByteArray × Nat) × List (Mg × Nat)) × Nat) : Prop := ∃ s', Rx w g s' (.ok x.2) ∧ Fix s s' ∧ (RowW w B s'.W (x.1.1.map Prod.fst) ∧ RowI w B (s'.P 4) (x.1.1.map Prod.snd)) ∧ (RowM w B s'.M (x.1.2.map Prod.fst) ∧ RowI w B (s'.P 5) (x.1.2.map Prod.snd)) ∧ Nil (s'.P 1) ∧ Nil (s'.P 2) ∧ Nil (s'.P 3)
abbrev LL := List (Sp × Nat)
def D3 (w : World) (x : ((List (ByteArray × Nat) × List (Mg × Nat)) × LL) × Nat) : Prop := ∃ s', Rx w g s' (.ok x.2) ∧ Fix s s' ∧ (RowW w B s'.W (x.1.1.1.map Prod.fst) ∧ RowI w B (s'.P 4) (x.1.1.1.map Prod.snd)) ∧ (RowM w B s'.M (x.1.1.2.map Prod.fst) ∧ RowI w B (s'.P 5) (x.1.1.2.map Prod.snd)) ∧ (RowS w B s'.A (x.1.2.map Prod.fst) ∧ RowI w B (s'.P 1) (x.1.2.map Prod.snd)) ∧ Nil (s'.P 2) ∧ Nil (s'.P 3)
def D4 (w : World) (x : (((List (ByteArray × Nat) × List (Mg × Nat)) × LL) × LL) × Nat) : Prop := ∃ s', Rx w g s' (.ok x.2) ∧ Fix s s' ∧ (RowW w B s'.W (x.1.1.1.1.map Prod.fst) ∧ RowI w B (s'.P 4) (x.1.1.1.1.map Prod.snd)) ∧ (RowM w B s'.M (x.1.1.1.2.map Prod.fst) ∧ RowI w B (s'.P 5) (x.1.1.1.2.map Prod.snd)) ∧ (RowS w B s'.A (x.1.1.2.map Prod.fst) ∧ RowI w B (s'.P 1) (x.1.1.2.map Prod.snd)) ∧ (RowS w B s'.B (x.1.2.map Prod.fst) ∧ RowI w B (s'.P 2) (x.1.2.map Prod.snd)) ∧ Nil (s'.P 3)
def D4b (w : World) (x : (((List (ByteArray × Nat) × List (Mg × Nat)) × LL) × LL) × Nat) : Prop := ∃ s', Rx w g s' (.ok x.2) ∧ Fix s s' ∧ (RowW w B s'.W (x.1.1.1.1.map Prod.fst) ∧ RowI w B (s'.P 4) (x.1.1.1.1.map Prod.snd)) ∧ (RowM w B s'.M (x.1.1.1.2.map Prod.fst) ∧ RowI w B (s'.P 5) (x.1.1.1.2.map Prod.snd)) ∧ (RowS w B s'.A (x.1.1.2.map Prod.fst) ∧ RowI w B (s'.P 1) (x.1.1.2.map Prod.snd)) ∧ (RowS w B s'.B (x.1.2.map Prod.fst) ∧ RowI w B (s'.P 2) (x.1.2.map Prod.snd)) ∧ Nil (s'.P 3) ∧ s'.bl = x.2
/-- All that was read lies in the reader. -/
structure AllAt (w : World) (B : Nat) (s' : RS) (r : Raw) : Prop where
  wr : RowW w B s'.W (r.ws.map Prod.fst)
  wp : RowI w B (s'.P 4) (r.ws.map Prod.snd)
  mr : RowM w B s'.M (r.ms.map Prod.fst)
  mp : RowI w B (s'.P 5) (r.ms.map Prod.snd)
  ar : RowS w B s'.A (r.A.map Prod.fst)
  ap : RowI w B (s'.P 1) (r.A.map Prod.snd)
  br : RowS w B s'.B (r.B.map Prod.fst)
  bp : RowI w B (s'.P 2) (r.B.map Prod.snd)
  cr : RowS w B s'.C (r.C.map Prod.fst)
  cp : RowI w B (s'.P 3) (r.C.map Prod.snd)
  bl : s'.bl = r.blank
def D5 (w : World) (x : Raw × Nat) : Prop := ∃ s', Rx w g s' (.ok x.2) ∧ Fix s s' ∧ AllAt w B s' x.1
def D6 (w : World) (r : Raw) : Prop := ∃ s' q, Rx w g s' (.ok q) ∧ AllAt w B s' r
end
theorem rowI_but {w w' : World} {g B : Nat} {v : Value} {l : List Nat} {s : RS} {q : Nat} (h : RowI w B v l) (hb : But g w.heap.size w w') (hr : Rx w g s (.ok q)) : RowI w' B v l := h.kt (hb.kt (s := { s with p := q, no := none }) hr (by decide))
theorem rowW_but {w w' : World} {g B : Nat} {v : Value} {l : List ByteArray} {s : RS} {q : Nat} (h : RowW w B v l) (hb : But g w.heap.size w w') (hr : Rx w g s (.ok q)) : RowW w' B v l := h.kt (hb.kt (s := { s with p := q, no := none }) hr (by decide))
theorem rowM_but {w w' : World} {g B : Nat} {v : Value} {l : List Mg} {s : RS} {q : Nat} (h : RowM w B v l) (hb : But g w.heap.size w w') (hr : Rx w g s (.ok q)) : RowM w' B v l := h.kt (hb.kt (s := { s with p := q, no := none }) hr (by decide))
theorem rowS_but {w w' : World} {g B : Nat} {v : Value} {l : List Sp} {s : RS} {q : Nat} (h : RowS w B v l) (hb : But g w.heap.size w w') (hr : Rx w g s (.ok q)) : RowS w' B v l := h.kt (hb.kt (s := { s with p := q, no := none }) hr (by decide))
theorem own_low {w : World} {base B : Nat} {T : TypeId} {k : Nat} {v : Value} {n : Nat} {xs : List Value} (h : w.ownsRow base T k v n xs) (hB : B ≤ base) : w.ownsRow B T k v n xs := by
  refine ⟨h.1, ?_⟩
  rcases h.2 with h0 | ⟨g, cap, cur, hv, hg, r⟩
  · exact .inl h0
  · exact .inr ⟨g, cap, cur, hv, Nat.le_trans hB hg, r⟩
theorem RowI.low {w : World} {base B : Nat} {v : Value} {l : List Nat} (h : RowI w base v l) (hB : B ≤ base) : RowI w B v l := own_low (T := 3) (k := 1) (xs := cellsI l) h hB
theorem RowW.low {w : World} {base B : Nat} {v : Value} {l : List ByteArray} (h : RowW w base v l) (hB : B ≤ base) : RowW w B v l := own_low (T := 9) (k := 1) (xs := cellsW l) h hB
theorem RowM.low {w : World} {base B : Nat} {v : Value} {l : List Mg} (h : RowM w base v l) (hB : B ≤ base) : RowM w B v l := own_low (T := 75) (k := 3) (xs := cellsM l) h hB
theorem RowS.low {w : World} {base B : Nat} {v : Value} {l : List Sp} (h : RowS w base v l) (hB : B ≤ base) : RowS w B v l := own_low (T := 78) (k := 2) (xs := cellsS l) h hB
section
variable {w0 w : World} {g B : Nat} {s : RS} {l : List UInt8}
theorem words_st {x : Except Er Nat} (hc : Ctx w0 w g B s l) (h : St x (D0 g s) g w) :
    Calls Tryz.prog 64 #[.pointer (some ⟨g, 0, none⟩)] w fun e w' => e = .returned (.tuple #[]) ∧ But g w.heap.size w w' ∧
      St (match x with | .error e => .error e | .ok p => andP (numP l 0 4096 4 p) fun n q => manyP (wordP l) n q) (D1 g B s) g w' := by
  cases x with
  | error r =>
    obtain ⟨s', h1, h2⟩ := h
    refine (words_bad g s' r w h1).mono ?_
    rintro e w' ⟨h3, h4, h5⟩
    exact ⟨h3, h5, s', h4, h2⟩
  | ok p =>
    obtain ⟨s', h1, hf, n1, n2, n3, n4, n5, n6, n7⟩ := h
    refine (words_ok g p s' l w h1 n6 n1 (hc.fl hf) (hc.cx hf)).mono ?_
    rintro e w' ⟨h3, h4, h5⟩
    refine ⟨h3, h4, ?_⟩
    simp only
    cases hx : (andP (numP l 0 4096 4 p) fun n q => manyP (wordP l) n q) with
    | error r => rw [hx] at h5; obtain ⟨s2, k1, k2⟩ := h5; exact ⟨s2, k1, k2.W⟩
    | ok a =>
      rw [hx] at h5
      obtain ⟨v, pv, k1, k2, k3⟩ := h5
      exact ⟨_, k1, ⟨hf.a, hf.n, hf.c⟩, k2.low hc.B, k3.low hc.B, n2, n3, n4, n5, n7⟩
theorem merges_st {x : Except Er (List (ByteArray × Nat) × Nat)} (hc : Ctx w0 w g B s l) (h : St x (D1 g B s) g w) (hn : ∀ a, x = .ok a → a.1.length ≤ 4096) :
    Calls Tryz.prog 65 #[.pointer (some ⟨g, 0, none⟩)] w fun e w' => e = .returned (.tuple #[]) ∧ But g w.heap.size w w' ∧
      St (match x with | .error e => .error e | .ok a => andP (manyP (mgP l) a.1.length a.2) fun m q => .ok ((a.1, m), q)) (D2 g B s) g w' := by
  cases x with
  | error r =>
    obtain ⟨s', h1, x, m, k, h2⟩ := h
    refine (merges_bad g m k x s' r w h1 h2).mono ?_
    rintro e w' ⟨h3, h4, h5⟩
    exact ⟨h3, h5, s', h4, x, m, k, h2⟩
  | ok a =>
    obtain ⟨s', h1, hf, r1, r2, n2, n3, n4, n5, n7⟩ := h
    obtain ⟨xa, xc, hv⟩ := own_slice (T := 9) (k := 1) (n := (a.1.map Prod.fst).length) (xs := cellsW (a.1.map Prod.fst)) r1
    rw [List.length_map] at hv
    refine (merges_ok g a.2 a.1.length xc xa s' l w (hn a rfl) h1 hv n7 n2 (hc.fl hf) (hc.cx hf)).mono ?_
    rintro e w' ⟨h3, h4, h5⟩
    refine ⟨h3, h4, ?_⟩
    simp only
    cases hx : manyP (mgP l) a.1.length a.2 with
    | error r => rw [hx] at h5; obtain ⟨s2, k1, k2⟩ := h5; exact ⟨s2, k1, k2.W⟩
    | ok b =>
      rw [hx] at h5
      obtain ⟨v, pv, k1, k2, k3⟩ := h5
      exact ⟨_, k1, ⟨hf.a, hf.n, hf.c⟩, ⟨rowW_but r1 h4 h1, rowI_but r2 h4 h1⟩, ⟨k2.low hc.B, k3.low hc.B⟩, n3, n4, n5⟩
end
end Go.Proofs.YtplmmamebfpcjaaGreatDoor
end
section
/- reader.all: its contract. -/
namespace Go.Proofs.YtplmmamebfpcjaaGreatDoor
open Go.RowKit Go.Sort Go.Joins
set_option linter.unusedVariables false
set_option maxRecDepth 100000
theorem rxset_kt {w : World} {g q : Nat} {s : RS} (h : Rx w g s (.ok q)) {T : TypeId} (hT : T ≠ 88) (o : Nat) (v : Value) : KT T w (w.setCell ⟨g, o, none⟩ v) := Rx.setkt h hT o v
theorem RErr.set5 {w : World} {g : Nat} {s : RS} {e : Er} (h : RErr w g s e) (v : Value) : RErr (w.setCell ⟨g, 5, none⟩ v) g { s with A := v } e := by
  obtain ⟨p, N, k1, k3, k4⟩ := h
  exact ⟨p, N, k1.setA v, k3, (Below.heap_setCell _ _ _ N (by show N ≠ g; omega)).trans k4⟩
theorem Rx.set5 {w : World} {g q : Nat} {s : RS} (h : Rx w g s (.ok q)) (v : Value) : Rx (w.setCell ⟨g, 5, none⟩ v) g { s with A := v } (.ok q) := RB.setA h v
theorem RErr.set6 {w : World} {g : Nat} {s : RS} {e : Er} (h : RErr w g s e) (v : Value) : RErr (w.setCell ⟨g, 6, none⟩ v) g { s with B := v } e := by
  obtain ⟨p, N, k1, k3, k4⟩ := h
  exact ⟨p, N, k1.setB v, k3, (Below.heap_setCell _ _ _ N (by show N ≠ g; omega)).trans k4⟩
theorem Rx.set6 {w : World} {g q : Nat} {s : RS} (h : Rx w g s (.ok q)) (v : Value) : Rx (w.setCell ⟨g, 6, none⟩ v) g { s with B := v } (.ok q) := RB.setB h v
theorem RErr.set7 {w : World} {g : Nat} {s : RS} {e : Er} (h : RErr w g s e) (v : Value) : RErr (w.setCell ⟨g, 7, none⟩ v) g { s with C := v } e := by
  obtain ⟨p, N, k1, k3, k4⟩ := h
  exact ⟨p, N, k1.setC v, k3, (Below.heap_setCell _ _ _ N (by show N ≠ g; omega)).trans k4⟩
theorem Rx.set7 {w : World} {g q : Nat} {s : RS} (h : Rx w g s (.ok q)) (v : Value) : Rx (w.setCell ⟨g, 7, none⟩ v) g { s with C := v } (.ok q) := RB.setC h v
theorem RErr.set14 {w : World} {g : Nat} {s : RS} {e : Er} (h : RErr w g s e) (q : Nat) : RErr (w.setCell ⟨g, 14, none⟩ (.int .i64 (q : Nat))) g { s with bl := q } e := by
  obtain ⟨p, N, k1, k3, k4⟩ := h
  exact ⟨p, N, k1.setBl q, k3, (Below.heap_setCell _ _ _ N (by show N ≠ g; omega)).trans k4⟩
theorem Rx.setb {w : World} {g q : Nat} {s : RS} (h : Rx w g s (.ok q)) (k : Nat) : Rx (w.setCell ⟨g, 14, none⟩ (.int .i64 (k : Nat))) g { s with bl := k } (.ok q) := RB.setBl h k
section
variable {w0 w : World} {g B : Nat} {s : RS} {l : List UInt8}
theorem magic_st (hc : Ctx w0 w g B s l) {p : Nat} (h : Rx w g s (.ok p)) (n1 : Nil s.W) (n2 : Nil s.M) (n3 : Nil (s.P 1)) (n4 : Nil (s.P 2)) (n5 : Nil (s.P 3)) (n6 : Nil (s.P 4)) (n7 : Nil (s.P 5)) :
    Calls Tryz.prog 63 #[.pointer (some ⟨g, 0, none⟩)] w fun e w' => e = .returned (.tuple #[]) ∧ But g w.heap.size w w' ∧
      St (match magicP l with | some i => .error (i, 11) | none => .ok 4) (D0 g s) g w' := by
  refine (magic_any g p s l w h (hc.fl ⟨rfl, rfl, rfl⟩)).mono ?_
  rintro e w' ⟨h1, h2, h3⟩
  refine ⟨h1, h2, ?_⟩
  unfold MagicQ at h3
  cases hm : magicP l with
  | some i => rw [hm] at h3; exact ⟨s, h3, _, _, _, n1⟩
  | none => rw [hm] at h3; exact ⟨s, h3, ⟨rfl, rfl, rfl⟩, n1, n2, n3, n4, n5, n6, n7⟩
theorem spans1_st {x : Except Er ((List (ByteArray × Nat) × List (Mg × Nat)) × Nat)} (hc : Ctx w0 w g B s l) (h : St x (D2 g B s) g w) :
    Calls Tryz.prog 66 #[.pointer (some ⟨g, 0, none⟩), .int .i64 1] w fun e w' => But g w.heap.size w w' ∧ ∃ xa n c, e = .returned (.slice xa n c) ∧ (∃ s2, RB w' g s2) ∧
      St (match x with | .error e => .error e | .ok a => andP (listP l a.2) fun L q => .ok ((a.1, L), q)) (D3 g B s) g (w'.setCell ⟨g, 5, none⟩ (.slice xa n c)) := by
  cases x with
  | error r =>
    obtain ⟨s', h1, h2⟩ := h
    refine (spans_bad g 1 s' r w h1).mono ?_
    rintro e w' ⟨rfl, h4, h5⟩
    refine ⟨h5, none, 0, 0, rfl, ?_, _, h4.set5 _, h2⟩
    obtain ⟨p, N, k1, _⟩ := h4
    exact ⟨_, k1⟩
  | ok a =>
    obtain ⟨s', h1, hf, ⟨ra, ra2⟩, ⟨rb, rb2⟩, n1, n2, n3⟩ := h
    have hWs : ∃ x m k, s'.W = .slice x m k := by
      obtain ⟨xa, xc, hv⟩ := own_slice (T := 9) (k := 1) (n := (a.1.1.map Prod.fst).length) (xs := cellsW (a.1.1.map Prod.fst)) ra
      exact ⟨_, _, _, hv⟩
    refine (spans1_ok g a.2 s' l w h1 n1 hWs (hc.fl hf) (hc.cx hf)).mono ?_
    rintro e w' ⟨hb, h5⟩
    refine ⟨hb, ?_⟩
    simp only
    cases hx : listP l a.2 with
    | error r =>
      rw [hx] at h5
      obtain ⟨s2, v, l1, rfl, k1, k2, k3⟩ := h5
      obtain ⟨xa, xc, rfl⟩ := own_slice (T := 78) (k := 2) (n := l1.length) (xs := cellsS l1) k3
      refine ⟨_, _, _, rfl, ?_, _, k1.set5 _, k2.W⟩
      obtain ⟨p, N, q1, _⟩ := k1
      exact ⟨_, q1⟩
    | ok b =>
      rw [hx] at h5
      obtain ⟨v, pv, rfl, k2, k3, k4⟩ := h5
      obtain ⟨xa, xc, rfl⟩ := own_slice (T := 78) (k := 2) (n := (b.1.map Prod.fst).length) (xs := cellsS (b.1.map Prod.fst)) k3
      have kx := fun T (hT : T ≠ 88) => rxset_kt k2 hT 5 (.slice xa (b.1.map Prod.fst).length xc)
      refine ⟨_, _, _, rfl, ⟨_, k2⟩, ?_⟩
      exact ⟨_, k2.set5 _, ⟨hf.a, hf.n, hf.c⟩, ⟨((rowW_but ra hb h1).kt (kx _ (by decide))), ((rowI_but ra2 hb h1).kt (kx _ (by decide)))⟩, ⟨((rowM_but rb hb h1).kt (kx _ (by decide))), ((rowI_but rb2 hb h1).kt (kx _ (by decide)))⟩, ⟨(k3.low hc.B).kt (kx _ (by decide)), (k4.low hc.B).kt (kx _ (by decide))⟩, n2, n3⟩
theorem spans2_st {x : Except Er (((List (ByteArray × Nat) × List (Mg × Nat)) × LL) × Nat)} (hc : Ctx w0 w g B s l) (h : St x (D3 g B s) g w) :
    Calls Tryz.prog 66 #[.pointer (some ⟨g, 0, none⟩), .int .i64 2] w fun e w' => But g w.heap.size w w' ∧ ∃ xa n c, e = .returned (.slice xa n c) ∧ (∃ s2, RB w' g s2) ∧
      St (match x with | .error e => .error e | .ok a => andP (listP l a.2) fun L q => .ok ((a.1, L), q)) (D4 g B s) g (w'.setCell ⟨g, 6, none⟩ (.slice xa n c)) := by
  cases x with
  | error r =>
    obtain ⟨s', h1, h2⟩ := h
    refine (spans_bad g 2 s' r w h1).mono ?_
    rintro e w' ⟨rfl, h4, h5⟩
    refine ⟨h5, none, 0, 0, rfl, ?_, _, h4.set6 _, h2⟩
    obtain ⟨p, N, k1, _⟩ := h4
    exact ⟨_, k1⟩
  | ok a =>
    obtain ⟨s', h1, hf, ⟨ra, ra2⟩, ⟨rb, rb2⟩, ⟨rc, rc2⟩, n2, n3⟩ := h
    have hWs : ∃ x m k, s'.W = .slice x m k := by
      obtain ⟨xa, xc, hv⟩ := own_slice (T := 9) (k := 1) (n := (a.1.1.1.map Prod.fst).length) (xs := cellsW (a.1.1.1.map Prod.fst)) ra
      exact ⟨_, _, _, hv⟩
    refine (spans2_ok g a.2 s' l w h1 n2 hWs (hc.fl hf) (hc.cx hf)).mono ?_
    rintro e w' ⟨hb, h5⟩
    refine ⟨hb, ?_⟩
    simp only
    cases hx : listP l a.2 with
    | error r =>
      rw [hx] at h5
      obtain ⟨s2, v, l1, rfl, k1, k2, k3⟩ := h5
      obtain ⟨xa, xc, rfl⟩ := own_slice (T := 78) (k := 2) (n := l1.length) (xs := cellsS l1) k3
      refine ⟨_, _, _, rfl, ?_, _, k1.set6 _, k2.W⟩
      obtain ⟨p, N, q1, _⟩ := k1
      exact ⟨_, q1⟩
    | ok b =>
      rw [hx] at h5
      obtain ⟨v, pv, rfl, k2, k3, k4⟩ := h5
      obtain ⟨xa, xc, rfl⟩ := own_slice (T := 78) (k := 2) (n := (b.1.map Prod.fst).length) (xs := cellsS (b.1.map Prod.fst)) k3
      have kx := fun T (hT : T ≠ 88) => rxset_kt k2 hT 6 (.slice xa (b.1.map Prod.fst).length xc)
      refine ⟨_, _, _, rfl, ⟨_, k2⟩, ?_⟩
      exact ⟨_, k2.set6 _, ⟨hf.a, hf.n, hf.c⟩, ⟨((rowW_but ra hb h1).kt (kx _ (by decide))), ((rowI_but ra2 hb h1).kt (kx _ (by decide)))⟩, ⟨((rowM_but rb hb h1).kt (kx _ (by decide))), ((rowI_but rb2 hb h1).kt (kx _ (by decide)))⟩, ⟨((rowS_but rc hb h1).kt (kx _ (by decide))), ((rowI_but rc2 hb h1).kt (kx _ (by decide)))⟩, ⟨(k3.low hc.B).kt (kx _ (by decide)), (k4.low hc.B).kt (kx _ (by decide))⟩, n3⟩
theorem spans3_st {x : Except Er ((((List (ByteArray × Nat) × List (Mg × Nat)) × LL) × LL) × Nat)} (hc : Ctx w0 w g B s l) (h : St x (D4b g B s) g w) :
    Calls Tryz.prog 66 #[.pointer (some ⟨g, 0, none⟩), .int .i64 3] w fun e w' => But g w.heap.size w w' ∧ ∃ xa n c, e = .returned (.slice xa n c) ∧ (∃ s2, RB w' g s2) ∧
      St (match x with | .error e => .error e | .ok a => andP (listP l a.2) fun L q => .ok ((⟨a.1.1.1.1, a.1.1.1.2, a.1.1.2, a.1.2, L, a.2⟩ : Raw), q)) (D5 g B s) g (w'.setCell ⟨g, 7, none⟩ (.slice xa n c)) := by
  cases x with
  | error r =>
    obtain ⟨s', h1, h2⟩ := h
    refine (spans_bad g 3 s' r w h1).mono ?_
    rintro e w' ⟨rfl, h4, h5⟩
    refine ⟨h5, none, 0, 0, rfl, ?_, _, h4.set7 _, h2⟩
    obtain ⟨p, N, k1, _⟩ := h4
    exact ⟨_, k1⟩
  | ok a =>
    obtain ⟨s', h1, hf, ⟨ra, ra2⟩, ⟨rb, rb2⟩, ⟨rc, rc2⟩, ⟨rd, rd2⟩, n3, hbl⟩ := h
    have hWs : ∃ x m k, s'.W = .slice x m k := by
      obtain ⟨xa, xc, hv⟩ := own_slice (T := 9) (k := 1) (n := (a.1.1.1.1.map Prod.fst).length) (xs := cellsW (a.1.1.1.1.map Prod.fst)) ra
      exact ⟨_, _, _, hv⟩
    refine (spans3_ok g a.2 s' l w h1 n3 hWs (hc.fl hf) (hc.cx hf)).mono ?_
    rintro e w' ⟨hb, h5⟩
    refine ⟨hb, ?_⟩
    simp only
    cases hx : listP l a.2 with
    | error r =>
      rw [hx] at h5
      obtain ⟨s2, v, l1, rfl, k1, k2, k3⟩ := h5
      obtain ⟨xa, xc, rfl⟩ := own_slice (T := 78) (k := 2) (n := l1.length) (xs := cellsS l1) k3
      refine ⟨_, _, _, rfl, ?_, _, k1.set7 _, k2.W⟩
      obtain ⟨p, N, q1, _⟩ := k1
      exact ⟨_, q1⟩
    | ok b =>
      rw [hx] at h5
      obtain ⟨v, pv, rfl, k2, k3, k4⟩ := h5
      obtain ⟨xa, xc, rfl⟩ := own_slice (T := 78) (k := 2) (n := (b.1.map Prod.fst).length) (xs := cellsS (b.1.map Prod.fst)) k3
      have kx := fun T (hT : T ≠ 88) => rxset_kt k2 hT 7 (.slice xa (b.1.map Prod.fst).length xc)
      refine ⟨_, _, _, rfl, ⟨_, k2⟩, ?_⟩
      exact ⟨_, k2.set7 _, ⟨hf.a, hf.n, hf.c⟩, ⟨((rowW_but ra hb h1).kt (kx _ (by decide))), ((rowI_but ra2 hb h1).kt (kx _ (by decide))), ((rowM_but rb hb h1).kt (kx _ (by decide))), ((rowI_but rb2 hb h1).kt (kx _ (by decide))), ((rowS_but rc hb h1).kt (kx _ (by decide))), ((rowI_but rc2 hb h1).kt (kx _ (by decide))), ((rowS_but rd hb h1).kt (kx _ (by decide))), ((rowI_but rd2 hb h1).kt (kx _ (by decide))), (k3.low hc.B).kt (kx _ (by decide)), (k4.low hc.B).kt (kx _ (by decide)), hbl⟩⟩
theorem blanks_st {x : Except Er ((((List (ByteArray × Nat) × List (Mg × Nat)) × LL) × LL) × Nat)} (h : St x (D4 g B s) g w) :
    ∃ s2, RB w g s2 ∧ St x (D4b g B s) g (w.setCell ⟨g, 14, none⟩ (.int .i64 (s2.p : Nat))) := by
  cases x with
  | error r =>
    obtain ⟨s', h1, h2⟩ := h
    have h1' := h1
    obtain ⟨p, N, k1, k3, k4⟩ := h1
    exact ⟨_, k1, _, h1'.set14 p, h2⟩
  | ok a =>
    obtain ⟨s', h1, hf, ⟨ra, ra2⟩, ⟨rb, rb2⟩, ⟨rc, rc2⟩, ⟨rd, rd2⟩, n3⟩ := h
    have kx := fun T (hT : T ≠ 88) => rxset_kt h1 hT 14 (.int .i64 (a.2 : Nat))
    refine ⟨{ s' with p := a.2, no := none }, h1, ?_⟩
    show D4b g B s (w.setCell ⟨g, 14, none⟩ (.int .i64 (a.2 : Nat))) a
    exact ⟨_, Rx.setb h1 a.2, ⟨hf.a, hf.n, hf.c⟩, ⟨ra.kt (kx _ (by decide)), ra2.kt (kx _ (by decide))⟩, ⟨rb.kt (kx _ (by decide)), rb2.kt (kx _ (by decide))⟩, ⟨rc.kt (kx _ (by decide)), rc2.kt (kx _ (by decide))⟩, ⟨rd.kt (kx _ (by decide)), rd2.kt (kx _ (by decide))⟩, n3, rfl⟩
theorem sum_st {x : Except Er (Raw × Nat)} (hc : Ctx w0 w g B s l) (h : St x (D5 g B s) g w) :
    Calls Tryz.prog 67 #[.pointer (some ⟨g, 0, none⟩)] w fun e w' => e = .returned (.tuple #[]) ∧ But g w.heap.size w w' ∧
      St (match x with | .error e => .error e | .ok a => (match sumP l a.2 with | .error e => .error e | .ok _ => .ok a.1)) (D6 g B) g w' := by
  cases x with
  | error r =>
    obtain ⟨s', h1, h2⟩ := h
    refine (sum_bad g s' r w h1).mono ?_
    rintro e w' ⟨h3, rfl⟩
    exact ⟨h3, But.refl _ _ _, s', h1, h2⟩
  | ok a =>
    obtain ⟨s', h1, hf, ha⟩ := h
    refine (sum_ok g a.2 s' l w h1 (hc.fl hf) (hc.cx hf)).mono ?_
    rintro e w' ⟨h3, hb, h5⟩
    refine ⟨h3, hb, ?_⟩
    simp only
    unfold SumQ at h5
    cases hx : sumP l a.2 with
    | error r =>
      rw [hx] at h5
      obtain ⟨xa, xc, hv⟩ := own_slice (T := 9) (k := 1) (n := (a.1.ws.map Prod.fst).length) (xs := cellsW (a.1.ws.map Prod.fst)) ha.wr
      exact ⟨s', h5, _, _, _, hv⟩
    | ok u =>
      rw [hx] at h5
      exact ⟨s', _, h5, ⟨rowW_but ha.wr hb h1, rowI_but ha.wp hb h1, rowM_but ha.mr hb h1, rowI_but ha.mp hb h1, rowS_but ha.ar hb h1, rowI_but ha.ap hb h1, rowS_but ha.br hb h1, rowI_but ha.bp hb h1, rowS_but ha.cr hb h1, rowI_but ha.cp hb h1, ha.bl⟩⟩
end
def X0 (l : List UInt8) : Except Er Nat := match magicP l with | some i => .error (i, 11) | none => .ok 4
def X1 (l : List UInt8) : Except Er (List (ByteArray × Nat) × Nat) := match X0 l with | .error e => .error e | .ok p => andP (numP l 0 4096 4 p) fun n q => manyP (wordP l) n q
def X2 (l : List UInt8) : Except Er ((List (ByteArray × Nat) × List (Mg × Nat)) × Nat) := match X1 l with | .error e => .error e | .ok a => andP (manyP (mgP l) a.1.length a.2) fun m q => .ok ((a.1, m), q)
def X3 (l : List UInt8) : Except Er (((List (ByteArray × Nat) × List (Mg × Nat)) × LL) × Nat) := match X2 l with | .error e => .error e | .ok a => andP (listP l a.2) fun L q => .ok ((a.1, L), q)
def X4 (l : List UInt8) : Except Er ((((List (ByteArray × Nat) × List (Mg × Nat)) × LL) × LL) × Nat) := match X3 l with | .error e => .error e | .ok a => andP (listP l a.2) fun L q => .ok ((a.1, L), q)
def X5 (l : List UInt8) : Except Er (Raw × Nat) := match X4 l with | .error e => .error e | .ok a => andP (listP l a.2) fun L q => .ok ((⟨a.1.1.1.1, a.1.1.1.2, a.1.1.2, a.1.2, L, a.2⟩ : Raw), q)
def X6 (l : List UInt8) : Except Er Raw := match X5 l with | .error e => .error e | .ok a => (match sumP l a.2 with | .error e => .error e | .ok _ => .ok a.1)
theorem X1_len {l : List UInt8} {a : List (ByteArray × Nat) × Nat} (h : X1 l = .ok a) : a.1.length ≤ 4096 := by
  unfold X1 at h
  cases h0 : X0 l with
  | error e => rw [h0] at h; cases h
  | ok p =>
    rw [h0] at h
    simp only at h
    cases h1 : numP l 0 4096 4 p with
    | error e => rw [h1] at h; cases h
    | ok k =>
      rw [h1] at h
      have h2 : manyP (wordP l) k.1 k.2 = .ok a := h
      have := manyP_len (l := a.1) (q := a.2) h2
      have h3 := numP_inv (n := k.1) (q := k.2) h1
      omega
theorem X6_raw (l : List UInt8) : X6 l = rawP l := by
  unfold X6 X5 X4 X3 X2 X1 X0 rawP bodyP
  cases h0 : magicP l with
  | some i => rfl
  | none =>
    simp only
    cases h1 : numP l 0 4096 4 4 with
    | error e => rfl
    | ok k1 =>
      obtain ⟨n, p1⟩ := k1
      simp only [andP]
      cases h2 : manyP (wordP l) n p1 with
      | error e => rfl
      | ok k2 =>
        obtain ⟨ws, p2⟩ := k2
        have hl := manyP_len h2
        simp only [hl]
        cases h3 : manyP (mgP l) n p2 with
        | error e => rfl
        | ok k3 =>
          obtain ⟨ms, p3⟩ := k3
          simp only
          cases h4 : listP l p3 with
          | error e => rfl
          | ok k4 =>
            obtain ⟨A, p4⟩ := k4
            simp only
            cases h5 : listP l p4 with
            | error e => rfl
            | ok k5 =>
              obtain ⟨B, p5⟩ := k5
              simp only
              cases h6 : listP l p5 with
              | error e => rfl
              | ok k6 =>
                obtain ⟨C, p6⟩ := k6
                simp only
                cases sumP l p6 <;> rfl
set_option maxHeartbeats 4000000 in
theorem all_any (g B p : Nat) (s : RS) (l : List UInt8) (w0 w : World) (hc : Ctx w0 w g B s l) (h : Rx w g s (.ok p)) (n1 : Nil s.W) (n2 : Nil s.M) (n3 : Nil (s.P 1)) (n4 : Nil (s.P 2)) (n5 : Nil (s.P 3)) (n6 : Nil (s.P 4)) (n7 : Nil (s.P 5)) :
    Calls Tryz.prog 39 #[.pointer (some ⟨g, 0, none⟩)] w fun e w' => e = .returned (.tuple #[]) ∧ But g w.heap.size w w' ∧ St (rawP l) (D6 g B) g w' := by
  have HM := magic_st hc h n1 n2 n3 n4 n5 n6 n7
  have HC : Hid (Ctx w0 w g B s l) := hc
  rw [← X6_raw l]
  clear h hc n1 n2 n3 n4 n5 n6 n7
  go_enter Tryz.func39, Tryz.ntmps39
  go_wp2_with fail
  refine HM.mono ?_
  rintro e w1 ⟨rfl, b1, s1⟩
  have HC1 : Hid (Ctx w0 w1 g B s l) := HC.out.but b1
  clear HM
  go_wp2_with fail
  refine (words_st HC1.out s1).mono ?_
  rintro e w2 ⟨rfl, hb2, s2⟩
  have b2 := b1.trans (hb2.mono b1.size)
  have HC2 : Hid (Ctx w0 w2 g B s l) := HC1.out.but hb2
  clear s1 hb2
  go_wp2_with fail
  refine (merges_st HC2.out s2 (fun a ha => X1_len (l := l) ha)).mono ?_
  rintro e w3 ⟨rfl, hb3, s3⟩
  have b3 := b2.trans (hb3.mono b2.size)
  have HC3 : Hid (Ctx w0 w3 g B s l) := HC2.out.but hb3
  clear s2 hb3
  go_wp2_with fail
  refine (spans1_st HC3.out s3).mono ?_
  rintro e w4 ⟨hb4, xa, n, c, rfl, ⟨t4, k4⟩, s4⟩
  have b4 := (b3.trans (hb4.mono b3.size)).setCell 5 (.slice xa n c)
  have HC4 : Hid (Ctx w0 (w4.setCell ⟨g, 5, none⟩ (.slice xa n c)) g B s l) := (HC3.out.but hb4).set 5 _
  have f4 := k4.free 5
  have c4 := k4.c5
  have S4 : Hid (St _ (D3 g B s) g (w4.setCell ⟨g, 5, none⟩ (.slice xa n c))) := s4
  clear s3 hb4 k4 s4
  go_wp2_with fail
  refine (spans2_st HC4.out S4.out).mono ?_
  clear c4 f4
  rintro e w5 ⟨hb5, xa5, n5, c5, rfl, ⟨t5, k5⟩, s5⟩
  have b5 := (b4.trans (hb5.mono b4.size)).setCell 6 (.slice xa5 n5 c5)
  have HC5 : Hid (Ctx w0 (w5.setCell ⟨g, 6, none⟩ (.slice xa5 n5 c5)) g B s l) := (HC4.out.but hb5).set 6 _
  have f5 := k5.free 6
  have d5 := k5.c6
  obtain ⟨t6, k6, s6⟩ := blanks_st s5
  have f6 := k6.free 14
  have d6 := k6.c14
  have d7 := k6.c1
  have S6 : Hid (St _ (D4b g B s) g ((w5.setCell ⟨g, 6, none⟩ (.slice xa5 n5 c5)).setCell ⟨g, 14, none⟩ (.int .i64 (t6.p : Nat)))) := s6
  have b6 := b5.setCell 14 (.int .i64 (t6.p : Nat))
  have HC6 : Hid (Ctx w0 ((w5.setCell ⟨g, 6, none⟩ (.slice xa5 n5 c5)).setCell ⟨g, 14, none⟩ (.int .i64 (t6.p : Nat))) g B s l) := HC5.out.set 14 _
  clear hb5 k5 k6 s5 s6 S4
  go_wp2_with fail
  refine (spans3_st HC6.out S6.out).mono ?_
  clear f5 d5 f6 d6 d7
  rintro e w7 ⟨hb7, xa7, n7, c7, rfl, ⟨t7, k7⟩, s7⟩
  have b7 := (b6.trans (hb7.mono b6.size)).setCell 7 (.slice xa7 n7 c7)
  have HC7 : Hid (Ctx w0 (w7.setCell ⟨g, 7, none⟩ (.slice xa7 n7 c7)) g B s l) := (HC6.out.but hb7).set 7 _
  have f7 := k7.free 7
  have d7 := k7.c7
  have S7 : Hid (St _ (D5 g B s) g (w7.setCell ⟨g, 7, none⟩ (.slice xa7 n7 c7))) := s7
  clear hb7 k7 s7 S6
  go_wp2_with fail
  refine (sum_st HC7.out S7.out).mono ?_
  rintro e w8 ⟨rfl, hb8, s8⟩
  go_wp2_with fail
  go_end0
  exact ⟨rfl, b7.trans (hb8.mono b7.size), s8⟩
end Go.Proofs.YtplmmamebfpcjaaGreatDoor
end
