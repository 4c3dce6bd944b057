/- tesseraref5.Merge: its contract. -/
import Derived.Test.YtlnebbciefdpoaaDoorMMerge
namespace Go.Proofs.YtlnebbciefdpoaaDoor
open Go.RowKit Go.Sort Go.Joins
set_option linter.unusedVariables false
theorem mergeM_of {ms : List Mg} {l r : Int} {k : Nat} {x : Mg} (hx : ms[k]? = some x) (hp : x.l = l ∧ x.r = r) (hb : ∀ (j : Nat) (y : Mg), j < k → ms[j]? = some y → pairB y l r = false) : mergeM ms l r = some (k, x.i) := by
  unfold mergeM
  rw [rankM_some hx (by unfold pairB; simp [hp.1, hp.2]) hb]
  simp [hx]
theorem mergeM_nil {ms : List Mg} {l r : Int} (hb : ∀ (j : Nat) (y : Mg), ms[j]? = some y → pairB y l r = false) : mergeM ms l r = none := by
  unfold mergeM
  rw [rankM_nil hb]
  rfl
set_option maxRecDepth 100000 in
set_option maxHeartbeats 2000000 in
theorem refMerge_any (aw am a b c : Option Addr) (nw cw cm na ca nb cb nc cc : Nat) (ms : List Mg) (l r : Int) (w : World) (hl : ms.length ≤ 9223372036854775807) (hM : MSP w am ms) :
    Calls Tryd.prog 20 #[.agg #[.slice aw nw cw, .slice am ms.length cm, .slice a na ca, .slice b nb cb, .slice c nc cc], .int .i64 l, .int .i64 r] w fun e w' => e = .returned (mrV (mergeM ms l r)) ∧ Below w.heap.size w w' := by
  have hD := DBox.new w (.slice aw nw cw) (.slice am ms.length cm) (.slice a na ca) (.slice b nb cb) (.slice c nc cc)
  have hb := box_below w (.cells #[.slice aw nw cw, .slice am ms.length cm, .slice a na ca, .slice b nb cb, .slice c nc cc] 42)
  have hM' := hM.below hb
  clear hM
  obtain ⟨R, hR⟩ : ∃ R, R = mergeM ms l r := ⟨_, rfl⟩
  have HR : Hid (R = mergeM ms l r) := hR
  rw [← hR]
  clear hR
  obtain ⟨Y, hY⟩ : ∃ Y, Y = w.alloc (.cells #[.slice aw nw cw, .slice am ms.length cm, .slice a na ca, .slice b nb cb, .slice c nc cc] 42) := ⟨_, rfl⟩
  go_enter Tryd.func20, Tryd.ntmps20
  go_wp2_with fail
  rw [← hY] at hb hD hM' ⊢
  clear hY
  obtain ⟨z, hz⟩ : ∃ z, z = w.heap.size := ⟨_, rfl⟩
  have HZ : Hid (z = w.heap.size) := hz
  rw [← hz] at hD hb ⊢
  clear hz
  go_loopw [9] (fun i wr => ∃ k : Nat, k ≤ ms.length ∧ i = .int .i64 k ∧ (∀ (j : Nat) (y : Mg), j < k → ms[j]? = some y → pairB y l r = false) ∧ Below Y.heap.size Y wr) (fun i _ => ms.length - (intOf i).toNat)
  case atStart => exact ⟨0, Nat.zero_le _, rfl, fun j y h => absurd h (Nat.not_lt_zero _), Below.refl _ _⟩
  case round =>
    obtain ⟨k, hk, rfl, hno, hbr⟩ := hrel
    have x1 := (hD.below hbr hD.lt).c1
    have HNO : Hid (∀ (j : Nat) (y : Mg), j < k → ms[j]? = some y → pairB y l r = false) := hno
    have hB2 := hb.trans (hbr.mono (by rw [HZ.out]; exact hb.size))
    clear hno
    by_cases hlt : k < ms.length
    · obtain ⟨x, hx⟩ : ∃ x, ms[k]? = some x := ⟨_, List.getElem?_eq_getElem (by omega)⟩
      have g0 : decide ((k : Int) < (ms.length : Int)) = true := decide_eq_true (by omega)
      have HX : Hid (ms[k]? = some x) := hx
      obtain ⟨bw, off, rfl, c0, c1, c2⟩ := (hM'.below hbr).at_ hx
      have nomore : ∀ (h : pairB x l r = false), ∀ (j : Nat) (y : Mg), j < k + 1 → ms[j]? = some y → pairB y l r = false := fun h j y hj hy => by
        by_cases hjk : j = k
        · subst hjk
          obtain rfl : y = x := Option.some.inj (hy.symm.trans HX.out)
          exact h
        · exact HNO.out j y (by omega) hy
      have NM : Hid (∀ (h : pairB x l r = false), ∀ (j : Nat) (y : Mg), j < k + 1 → ms[j]? = some y → pairB y l r = false) := nomore
      clear hx hM' nomore
      by_cases hl1 : x.l = l
      · by_cases hr1 : x.r = r
        · have g1 : (x.l == l) = true := by simpa using hl1
          have g2 : (x.r == r) = true := by simpa using hr1
          have HE : Hid (R = some (k, x.i)) := HR.out.trans (mergeM_of HX.out ⟨hl1, hr1⟩ HNO.out)
          clear hl1 hr1 NM
          go_wp2_with fail
          go_quiet (fail)
          go_wp2_with fail
          exact bodyPost_ret (v := .tuple #[.int .i64 (k : Nat), .int .i64 x.i, .bool true]) (by simp [results, Tryd.results20, go_sem]) rfl ⟨by rw [HE.out]; rfl, by rw [← HZ.out]; exact below_drewN hB2 _⟩
        · have g1 : (x.l == l) = true := by simpa using hl1
          have g2 : (x.r == r) = false := by simpa using hr1
          have HP : Hid (pairB x l r = false) := (by unfold pairB; rw [g2, Bool.and_false] : pairB x l r = false)
          clear hl1 hr1
          go_wp2_with fail
          exact ⟨⟨k + 1, by omega, by go_num, NM.out HP.out, hbr⟩, by simp only [intOf]; omega⟩
      · have g1 : (x.l == l) = false := by simpa using hl1
        have HP : Hid (pairB x l r = false) := (by unfold pairB; rw [g1, Bool.false_and] : pairB x l r = false)
        clear hl1
        go_wp2_with fail
        exact ⟨⟨k + 1, by omega, by go_num, NM.out HP.out, hbr⟩, by simp only [intOf]; omega⟩
    · have hkn : k = ms.length := by omega
      have HE : Hid (R = none) := HR.out.trans (mergeM_nil fun j y hy => HNO.out j y (by have := (List.getElem?_eq_some_iff.1 hy).1; omega) hy)
      subst hkn
      clear hM'
      go_wp2_with fail
      exact bodyPost_ret (v := .tuple #[.int .i64 0, .int .i64 0, .bool false]) (by simp [results, Tryd.results20, go_sem]) rfl ⟨by rw [HE.out]; rfl, by rw [← HZ.out]; exact hB2⟩
end Go.Proofs.YtlnebbciefdpoaaDoor
