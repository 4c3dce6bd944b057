/- model.wrongNumbers, longest, wrongWord: their contracts. -/
import Derived.Test.YtlnebbciefdpoaaDoorMRefB
import Derived.Test.YtlnebbciefdpoaaDoorMMap
namespace Go.Proofs.YtlnebbciefdpoaaDoor
open Go.RowKit Go.Sort Go.Joins Go.Maps Go.WideMaps
def numF (n m : Nat) : Nat × Nat × Nat := if 4096 < m then (4, 5, 4096) else if n ≠ m then (4, 4, min n m) else (0, 0, 0)
/-- A refusal. -/
def f3V (p : Nat × Nat × Nat) : Value := .agg #[.int .i64 (p.1 : Nat), .int .i64 (p.2.1 : Nat), .int .i64 (p.2.2 : Nat)]
set_option maxRecDepth 100000 in
set_option maxHeartbeats 4000000 in
theorem numbers_any (aw am a b c : Option Addr) (nw cw nm cm na ca nb cb nc cc : Nat) (w : World) :
    Calls Tryd.prog 50 #[.agg #[.slice aw nw cw, .slice am nm cm, .slice a na ca, .slice b nb cb, .slice c nc cc]] w fun e w' => e = .returned (f3V (numF nw nm)) ∧ Below w.heap.size w w' := by
  have hD := DBox.new w (.slice aw nw cw) (.slice am nm cm) (.slice a na ca) (.slice b nb cb) (.slice c nc cc)
  have hb := box_below w (.cells #[.slice aw nw cw, .slice am nm cm, .slice a na ca, .slice b nb cb, .slice c nc cc] 42)
  have hD2 := hD.below (box_below (w.alloc (.cells #[.slice aw nw cw, .slice am nm cm, .slice a na ca, .slice b nb cb, .slice c nc cc] 42)) (.cells #[.int .i64 0, .int .i64 0, .int .i64 0] 26)) hD.lt
  clear hD
  have x0 := hD2.c0
  have x1 := hD2.c1
  clear hD2
  obtain ⟨E, hE⟩ : ∃ E, E = numF nw nm := ⟨_, rfl⟩
  have HE : Hid (E = numF nw nm) := hE
  rw [← hE]
  clear hE
  obtain ⟨q, hq⟩ : ∃ q, q = min nw nm := ⟨_, rfl⟩
  have HQ : Hid (q = min nw nm) := hq
  clear hq
  by_cases h1 : 4096 < nm
  · have g1 : decide ((4096 : Int) < (nm : Int)) = true := decide_eq_true (by omega)
    have HE2 : Hid (E = (4, 5, 4096)) := by rw [HE.out]; unfold numF; rw [if_pos h1]; exact rfl
    go_enter Tryd.func50, Tryd.ntmps50
    go_wp2_with fail
    exact bodyPost_ret (v := .agg #[.int .i64 4, .int .i64 5, .int .i64 4096]) (by simp [results, Tryd.results50, go_sem]) rfl ⟨by rw [HE2.out]; rfl, hb.alloc hb.size _⟩
  · have g1 : decide ((4096 : Int) < (nm : Int)) = false := decide_eq_false (by omega)
    by_cases h2 : nw = nm
    · subst h2
      have HE2 : Hid (E = (0, 0, 0)) := by rw [HE.out]; unfold numF; rw [if_neg h1, if_neg (by simp)]; exact rfl
      go_enter Tryd.func50, Tryd.ntmps50
      go_wp2_with fail
      exact bodyPost_ret (v := .agg #[.int .i64 0, .int .i64 0, .int .i64 0]) (by simp [results, Tryd.results50, go_sem]) rfl ⟨by rw [HE2.out]; rfl, hb.alloc hb.size _⟩
    · have g2 : ((nw : Int) == (nm : Int)) = false := by simp; omega
      have HE2 : Hid (E = (4, 4, q)) := by rw [HE.out, HQ.out]; unfold numF; rw [if_neg h1, if_pos h2]; exact rfl
      go_enter Tryd.func50, Tryd.ntmps50
      go_wp2_with fail
      all_goals
        rename_i hcmp
      · have e : (nm : Int) = (q : Int) := by rw [HQ.out]; omega
        exact bodyPost_ret (v := .agg #[.int .i64 4, .int .i64 4, .int .i64 (nm : Int)]) (by simp [results, Tryd.results50, go_sem]) rfl ⟨by rw [HE2.out, e]; rfl, hb.alloc hb.size _⟩
      · have e : (nw : Int) = (q : Int) := by rw [HQ.out]; omega
        exact bodyPost_ret (v := .agg #[.int .i64 4, .int .i64 4, .int .i64 (nw : Int)]) (by simp [results, Tryd.results50, go_sem]) rfl ⟨by rw [HE2.out, e]; rfl, hb.alloc hb.size _⟩
set_option maxRecDepth 100000 in
set_option maxHeartbeats 4000000 in
theorem longest_any (aw : Option Addr) (cw : Nat) (ws : List ByteArray) (w : World) (hn : ws.length ≤ 4611686018427387904) (hW : WSP w aw ws) :
    Calls Tryd.prog 53 #[.slice aw ws.length cw] w fun e w' => e = .returned (.int .i64 (longM ws : Nat)) ∧ w' = w := by
  go_enter Tryd.func53, Tryd.ntmps53
  go_wp2_with fail
  go_loopw [3, 8] (fun m i wr => ∃ k : Nat, k ≤ ws.length ∧ i = .int .i64 k ∧ m = .int .i64 (longM (ws.take k) : Nat) ∧ wr = w) (fun _ i _ => ws.length - (intOf i).toNat)
  case atStart => exact ⟨0, Nat.zero_le _, rfl, by simp [longM], rfl⟩
  case round =>
    obtain ⟨k, hk, rfl, rfl, he⟩ := hrel
    obtain rfl := he.symm
    by_cases hlt : k < ws.length
    · obtain ⟨x, hx⟩ : ∃ x, ws[k]? = some x := ⟨_, List.getElem?_eq_getElem hlt⟩
      have hs := longM_step ws k x hx
      have g0 : decide ((k : Int) < (ws.length : Int)) = true := decide_eq_true (by omega)
      obtain ⟨L, hL⟩ : ∃ L, L = longM (ws.take k) := ⟨_, rfl⟩
      rw [← hL] at hs ⊢
      obtain ⟨m, hm⟩ : ∃ m : Nat, m = if L < x.size then x.size else L := ⟨_, rfl⟩
      have HS : Hid (longM (ws.take (k + 1)) = m) := by rw [hs, ← hm]; exact rfl
      have HM : Hid (m = if L < x.size then x.size else L) := hm
      obtain ⟨bw, off, rfl, hc⟩ := hW.at_ hx
      clear hs hL hW hm hx
      go_wp2_with fail
      refine ⟨⟨k + 1, by omega, by go_num, ?_, trivial⟩, by simp only [intOf]; omega⟩
      rw [HS.out, HM.out]
      split <;> rfl
    · have hkn : k = ws.length := by omega
      subst hkn
      rw [List.take_length]
      clear hW
      go_wp2_with fail
      go_ret
      exact ⟨rfl, rfl⟩
/-- What the map of rows holds behind k words. -/
def rowsF (ws : List ByteArray) : Nat → ByteArray → Option Int
  | 0 => fun _ => none
  | k + 1 => fun y => if ws[k]? = some y then some (k : Int) else rowsF ws k y
theorem rowsF_some (ws : List ByteArray) (k : Nat) (y : ByteArray) (hk : k ≤ ws.length) : (rowsF ws k y).isSome = (ws.take k).any (fun v => decide (v = y)) := by
  induction k with
  | zero => simp [rowsF]
  | succ k ih =>
    have hx : ws[k]? = some ws[k] := List.getElem?_eq_getElem (by omega)
    rw [any_take_snoc hx, ← ih (by omega)]
    show (if ws[k]? = some y then some (k : Int) else rowsF ws k y).isSome = _
    rw [hx]
    by_cases h : ws[k] = y
    · simp [h]
    · rw [if_neg (fun e => h (Option.some.inj e))]
      simp [h]
theorem rowsF_step {ws : List ByteArray} {k : Nat} {x : ByteArray} (hx : ws[k]? = some x) : rowsF ws (k + 1) = fun y => if y = x then some (k : Int) else rowsF ws k y := by
  funext y
  show (if ws[k]? = some y then _ else _) = _
  rw [hx]
  by_cases h : y = x
  · subst h; simp
  · rw [if_neg (fun e => h (Option.some.inj e).symm), if_neg h]
theorem lawS : Keyed Tryd.prog 9 := string_keyed Tryd.underlying9
theorem strV_inj (x y : ByteArray) (h : Value.string x = Value.string y) : x = y := by cases h; rfl
set_option maxRecDepth 100000 in
set_option maxHeartbeats 4000000 in
theorem wrongWord_any (aw : Option Addr) (cw : Nat) (ws : List ByteArray) (w : World) (hn : ws.length ≤ 4611686018427387904) (hW : WSP w aw ws) :
    Calls Tryd.prog 52 #[.slice aw ws.length cw] w fun e w' => e = .returned (.tuple #[.int .i64 ((firstBad (badW ws) ws.length).2 : Nat), .int .i64 ((firstBad (badW ws) ws.length).1 : Nat)]) ∧ Below w.heap.size w w' := by
  obtain ⟨E, hE⟩ : ∃ E, E = firstBad (badW ws) ws.length := ⟨_, rfl⟩
  have HE : Hid (E = firstBad (badW ws) ws.length) := hE
  rw [← hE]
  clear hE
  have hmm := @run_makeMap Tryd.prog
  have hM0 := MapI.made w 9 Value.string
  have hb0 := box_below w (.map #[] 0)
  go_enter Tryd.func52, Tryd.ntmps52
  go_wp2_with fail
  obtain ⟨Y, hY⟩ : ∃ Y, Y = w.alloc (.map #[] 0) := ⟨_, rfl⟩
  rw [← hY] at hb0 hM0 ⊢
  clear hY hmm
  obtain ⟨z, hz⟩ : ∃ z, z = w.heap.size := ⟨_, rfl⟩
  have HZ : Hid (z = w.heap.size) := hz
  rw [← hz] at hM0 ⊢
  have HW0 : Hid (WSP w aw ws) := hW
  clear hz hW
  go_loopw [12] (fun i wr => ∃ k : Nat, k ≤ ws.length ∧ i = .int .i64 k ∧ (∀ j, j < k → badW ws j = 0) ∧ MapI wr 9 Value.string z k (rowsF ws k) ∧ Below w.heap.size w wr) (fun i _ => ws.length - (intOf i).toNat)
  case atStart => exact ⟨0, Nat.zero_le _, rfl, fun j hj => absurd hj (Nat.not_lt_zero _), hM0, hb0⟩
  case round =>
    clear hM0 hb0
    obtain ⟨k, hk, rfl, hok, hM, hbr⟩ := hrel
    have HOK : Hid (∀ j, j < k → badW ws j = 0) := hok
    have HB : Hid (Below w.heap.size w wr) := hbr
    clear hok
    by_cases hlt : k < ws.length
    · obtain ⟨x, hx⟩ : ∃ x, ws[k]? = some x := ⟨_, List.getElem?_eq_getElem hlt⟩
      have g0 : decide ((k : Int) < (ws.length : Int)) = true := decide_eq_true (by omega)
      have HX : Hid (ws[k]? = some x) := hx
      obtain ⟨bw, off, rfl, hc⟩ := (HW0.out.below hbr).at_ hx
      clear hx hbr
      by_cases hs : x.size < 2 ∨ 256 < x.size
      · have hbad : firstBad (badW ws) ws.length = (21, k) := by
          have := badW_size HX.out hs
          rw [firstBad_some hlt HOK.out (by rw [this]; decide), this]
        have HBD : Hid (firstBad (badW ws) ws.length = (21, k)) := hbad
        have hp : (∃ _ : decide ((x.size : Int) < 2) = false, decide ((256 : Int) < (x.size : Int)) = true) ∨ decide ((x.size : Int) < 2) = true := by
          by_cases h2 : x.size < 2
          · exact .inr (decide_eq_true (by omega))
          · exact .inl ⟨decide_eq_false (by omega), decide_eq_true (by omega)⟩
        clear hbad hs hM
        rcases hp with ⟨g1, g2⟩ | g1
        all_goals
          go_wp2_with fail
          exact bodyPost_ret (v := .tuple #[.int .i64 (k : Int), .int .i64 21]) (by simp [results, Tryd.results52, go_sem]) rfl ⟨by rw [HE.out, HBD.out]; rfl, HB.out⟩
      · have g1 : decide ((x.size : Int) < 2) = false := decide_eq_false (by omega)
        have g2 : decide ((256 : Int) < (x.size : Int)) = false := decide_eq_false (by omega)
        have HS : Hid (¬ (x.size < 2 ∨ 256 < x.size)) := hs
        obtain ⟨F, hF⟩ : ∃ F, F = rowsF ws k := ⟨_, rfl⟩
        have HF : Hid (F = rowsF ws k) := hF
        rw [← hF] at hM
        have hkey : keyOf Tryd.prog 9 (.string x) = some (.string x.data.toList) := Go.WideMaps.keyOf_string_mk Tryd.underlying9 (by unfold maxLen; omega)
        have hany := rowsF_some ws k x hk
        rw [← hF] at hany
        clear hs hF
        cases hFx : F x with
        | some q =>
          have HFx : Hid ((ws.take k).any (fun v => decide (v = x)) = true) := by rw [hFx] at hany; exact hany.symm
          have hbad : firstBad (badW ws) ws.length = (22, k) := by
            have := badW_twice HX.out HS.out HFx.out
            rw [firstBad_some hlt HOK.out (by rw [this]; decide), this]
          have HBD : Hid (firstBad (badW ws) ws.length = (22, k)) := hbad
          clear hbad hany
          go_wp2_with (first | (at_lookup; refine wpList_look _ rfl _ _ 127 rfl lawS Tryd.underlying127 rfl hM x _ rfl hkey ?_; simp only [hFx, Option.getD_some, Option.isSome_some]) | fail)
          exact bodyPost_ret (v := .tuple #[.int .i64 (k : Int), .int .i64 22]) (by simp [results, Tryd.results52, go_sem]) rfl ⟨by rw [HE.out, HBD.out]; rfl, HB.out⟩
        | none =>
          have HFx : Hid ((ws.take k).any (fun v => decide (v = x)) = false) := by rw [hFx] at hany; exact hany.symm
          have HOK1 : Hid (badW ws k = 0) := badW_ok HX.out HS.out HFx.out
          have hwf := wf_nat k (by omega)
          have hkl : k < maxLen := by unfold maxLen; omega
          clear hany
          go_wp2_with (first | (at_lookup; refine wpList_look _ rfl _ _ 127 rfl lawS Tryd.underlying127 rfl hM x _ rfl hkey ?_; simp only [hFx, Option.getD_none, Option.isSome_none]) | (at_mapUpdate; refine wpList_store _ rfl _ _ _ 127 rfl lawS strV_inj Tryd.underlying127 rfl hM hkl x _ (k : Int) rfl rfl hkey hFx hwf ?_; intro w1 hM1 hg1) | fail)
          refine ⟨⟨k + 1, by omega, by go_num, fun i hi => ?_, ?_, ?_⟩, by simp only [intOf]; omega⟩
          · by_cases e : i = k
            · rw [e]; exact HOK1.out
            · exact HOK.out i (by omega)
          · rw [rowsF_step HX.out, ← HF.out]; exact hM1
          · exact HB.out.grown hg1 HB.out.size (fun j hj => by cases hj; exact Nat.le_of_eq HZ.out.symm)
    · have hkn : k = ws.length := by omega
      subst hkn
      have HBD : Hid (firstBad (badW ws) ws.length = (0, 0)) := firstBad_none HOK.out
      clear hM hbr
      go_wp2_with fail
      exact bodyPost_ret (v := .tuple #[.int .i64 0, .int .i64 0]) (by simp [results, Tryd.results52, go_sem]) rfl ⟨by rw [HE.out, HBD.out]; rfl, HB.out⟩
end Go.Proofs.YtlnebbciefdpoaaDoor
