/- ModelAll: the walk. -/
import Derived.Test.YtlnebbciefdpoaaDoorMKnown
import Derived.Test.YtlnebbciefdpoaaDoorRMono
import Derived.Maps.Keyed
namespace Go.Proofs.YtlnebbciefdpoaaDoor
open Go.RowKit Go.Sort Go.Joins Go.Maps Go.WideMaps
set_option linter.unusedVariables false
theorem badM_zero {ws : List ByteArray} {ms : List Mg} {i : Nat} {x : Mg} (hx : ms[i]? = some x) (h : badM ws ms i = 0) : cutM ws ms i = 0 ∧ (ms.take i).any (fun y => pairB y x.l x.r) = false := by
  unfold badM at h
  by_cases h0 : cutM ws ms i ≠ 0
  · rw [if_pos h0] at h; exact absurd h h0
  · rw [if_neg h0, hx] at h
    simp only at h
    refine ⟨by simpa using h0, ?_⟩
    cases hq : (ms.take i).any (fun y => pairB y x.l x.r) with
    | false => rfl
    | true => rw [if_pos hq] at h; cases h
theorem MOk.cut {ws : List ByteArray} {ms : List Mg} {A B C : List Sp} (h : MOk ws ms A B C) {i : Nat} {x : Mg} (hx : ms[i]? = some x) :
    256 ≤ x.i ∧ x.i - 256 < ws.length ∧ madeM ms i x.i = false ∧ madeM ms i x.l = true ∧ madeM ms i x.r = true ∧ wordM ws x.i = some (joinM ws x.l x.r) :=
  cutM_zero hx (badM_zero hx (h.cuts i (List.getElem?_eq_some_iff.1 hx).1)).1
theorem MOk.merge {ws : List ByteArray} {ms : List Mg} {A B C : List Sp} (h : MOk ws ms A B C) {i : Nat} {x : Mg} (hx : ms[i]? = some x) : mergeM ms x.l x.r = some (i, x.i) := by
  have h1 := (badM_zero hx (h.cuts i (List.getElem?_eq_some_iff.1 hx).1)).2
  unfold mergeM
  rw [rankM_some hx (by simp [pairB]) fun j y hj hy => ?_]
  · simp [hx]
  · cases hp : pairB y x.l x.r with
    | false => rfl
    | true =>
      have := any_take_hit (p := fun y => pairB y x.l x.r) hy hj hp
      rw [h1] at this
      cases this
/-- What is made has a word. -/
theorem MOk.made_word {ws : List ByteArray} {ms : List Mg} {A B C : List Sp} (h : MOk ws ms A B C) {i : Nat} {id : Int} (hm : madeM ms i id = true) : ∃ s, wordM ws id = some s := by
  unfold madeM at hm
  simp only [Bool.or_eq_true, Bool.and_eq_true, decide_eq_true_eq] at hm
  rcases hm with ⟨h1, h2⟩ | ⟨h1, h2⟩
  · exact ⟨byteS id, by unfold wordM; rw [if_pos ⟨h1, h2⟩]⟩
  · obtain ⟨y, hy, hyi⟩ := List.any_eq_true.1 h2
    obtain ⟨j, hj⟩ := List.mem_iff_getElem?.1 hy
    have hji : j < i := by
      have := (List.getElem?_eq_some_iff.1 hj).1
      simp at this; omega
    rw [List.getElem?_take_of_lt hji] at hj
    obtain ⟨a1, a2, -⟩ := h.cut hj
    have hid : y.i = id := by simpa using hyi
    rw [wordM_in h1]
    exact ⟨_, List.getElem?_eq_getElem (by omega)⟩
/-- What the map of ids holds behind k merges: one more than the rank. -/
def seenF (ms : List Mg) : Nat → Int → Option Int
  | 0 => fun _ => none
  | k + 1 => fun z => if (ms[k]?).map (·.i) = some z then some ((k : Int) + 1) else seenF ms k z
theorem seenF_none {ms : List Mg} {k : Nat} {z : Int} (h : (ms.take k).any (fun y => y.i == z) = false) : seenF ms k z = none := by
  induction k with
  | zero => rfl
  | succ k ih =>
    have h1 : (ms.take k).any (fun y => y.i == z) = false := by
      rw [List.take_add_one, List.any_append] at h
      simp only [Bool.or_eq_false_iff] at h
      exact h.1
    show (if _ then _ else _) = none
    rw [if_neg, ih h1]
    intro hq
    obtain ⟨x, hx, hxz⟩ := Option.map_eq_some_iff.1 hq
    have := any_take_hit (p := fun y => y.i == z) hx (Nat.lt_succ_self k) (by simpa using hxz)
    rw [h] at this
    cases this
theorem seenF_some {ms : List Mg} {k : Nat} {z : Int} (h : (ms.take k).any (fun y => y.i == z) = true) : ∃ p, seenF ms k z = some p ∧ 1 ≤ p := by
  induction k with
  | zero => simp at h
  | succ k ih =>
    simp only [seenF]
    by_cases hq : (ms[k]?).map (·.i) = some z
    · rw [if_pos hq]; exact ⟨_, rfl, by omega⟩
    · rw [if_neg hq]
      refine ih ?_
      rw [List.take_add_one, List.any_append] at h
      simp only [Bool.or_eq_true] at h
      rcases h with h | h
      · exact h
      · exfalso
        apply hq
        cases hk : ms[k]? with
        | none => rw [hk] at h; simp at h
        | some x => rw [hk] at h; simp at h; simp [h]
theorem seenF_step {ms : List Mg} {k : Nat} {x : Mg} (hx : ms[k]? = some x) : seenF ms (k + 1) = fun z => if z = x.i then some ((k : Int) + 1) else seenF ms k z := by
  funext z
  show (if _ then _ else _) = _
  rw [hx]
  by_cases h : z = x.i
  · rw [if_pos (by simp [h]), if_pos h]
  · rw [if_neg (by simpa using fun e => h e.symm), if_neg h]
theorem lawI : Keyed Tryd.prog 3 := int_keyed Tryd.underlying3
theorem intV_inj (x y : Int) (h : Value.int .i64 x = Value.int .i64 y) : x = y := by cases h; rfl
theorem keyI {n : Int} (h : W64 n) : keyOf Tryd.prog 3 (.int .i64 n) = some (.int .i64 n) := keyOf_int_mk Tryd.underlying3 (WalkArith.wf_i64 h)
set_option maxRecDepth 100000 in
set_option maxHeartbeats 4000000 in
theorem all_walk (aw am a b c : Option Addr) (cw cm ca cb cc : Nat) (ws : List ByteArray) (ms : List Mg) (A B C : List Sp) (w : World) (hwf : MWf ms) (hn : ws.length ≤ 8796093022208 ∧ ms.length ≤ 5864062014805 ∧ A.length ≤ 17592186044416 ∧ B.length ≤ 17592186044416 ∧ C.length ≤ 17592186044416) (hW : WSP w aw ws) (hM : MSP w am ms) (hA : Lst w a ca A) (hB : Lst w b cb B) (hC : Lst w c cc C) (hG : GL w) :
    Calls Tryd.prog 6 #[.agg #[.slice aw ws.length cw, .slice am ms.length cm, .slice a A.length ca, .slice b B.length cb, .slice c C.length cc]] w fun e w' => e = .returned (.bool true) ∧ Below w.heap.size w w' := by
  have hD := DBox.new w (.slice aw ws.length cw) (.slice am ms.length cm) (.slice a A.length ca) (.slice b B.length cb) (.slice c C.length cc)
  have hb0 := box_below w (.cells #[.slice aw ws.length cw, .slice am ms.length cm, .slice a A.length ca, .slice b B.length cb, .slice c C.length cc] 42)
  have HW : Hid (WSP w aw ws) := hW
  have HM : Hid (MSP w am ms) := hM
  have HA : Hid (Lst w a ca A) := hA
  have HB : Hid (Lst w b cb B) := hB
  have HC : Hid (Lst w c cc C) := hC
  have HG : Hid (GL w) := hG
  clear hW hM hA hB hC hG
  have x0 := hD.c0
  have x1 := hD.c1
  have x2 := hD.c2
  have x3 := hD.c3
  have x4 := hD.c4
  go_enter Tryd.func6, Tryd.ntmps6
  go_wp2_with fail
  obtain ⟨Y, hY⟩ : ∃ Y, Y = w.alloc (.cells #[.slice aw ws.length cw, .slice am ms.length cm, .slice a A.length ca, .slice b B.length cb, .slice c C.length cc] 42) := ⟨_, rfl⟩
  rw [← hY] at hb0 ⊢
  clear hY x0 x1 x2 x3 x4 hD
  refine (keepOf_any aw am a b c cw cm ca cb cc ws ms A B C Y hwf (by omega) (HW.out.below hb0) (HM.out.below hb0) (HA.out.below hb0) (HB.out.below hb0) (HC.out.below hb0) (HG.out.below hb0)).mono ?_
  rintro e w1 ⟨p, rfl, hp1, hp2, hb1⟩
  have B1 := hb0.trans (hb1.mono hb0.size)
  have hG1 := HG.out.below B1
  clear HW HM HA HB HC HG
  cases hU : upB ws ms A B C with
  | false =>
    obtain rfl := hp2 hU
    clear hp1 hp2 hU hb1 hb0
    go_wp2_with fail
    refine (known_any w1 hG1).mono ?_
    rintro e w2 ⟨rfl, hb2⟩
    go_wp2_with fail
    go_ret
    exact ⟨rfl, B1.trans (hb2.mono B1.size)⟩
  | true =>
    obtain ⟨g, rfl, hMd⟩ := hp1 hU
    have hK := upB_ok hU
    have hf := upB_few hU
    have HK : Hid (MOk ws ms A B C) := hK
    have hw3 : ws.length ≤ 300 := by rw [hK.nm]; exact hf
    have HF3 : Hid (ms.length ≤ 300) := hf
    have hnm : Hid (ws.length = ms.length) := hK.nm
    have hgw : g < w1.heap.size := by
      obtain ⟨a0, c0, a1, c1, a2, c2, a3, c3, a4, c4, gt, gr, h1, h2, h3, -⟩ := hMd
      exact (Array.getElem?_eq_some_iff.1 h3).1
    have hmm := @run_makeMap Tryd.prog
    have b2 := box_below w1 (.map #[] 0)
    have hmp := MapI.made (K := 3) (kv := fun n : Int => Value.int .i64 n) w1
    have hMd2 := hMd.below b2
    clear hp1 hp2 hU hb1 hb0 hK hf hn
    have hdt := data_any g _ ws ms A B C (w1.alloc (.map #[] 0)) HK.out hMd2
    have HMd : Hid (ModelAt w1 Y.heap.size g ws ms A B C) := hMd
    clear hMd hMd2
    go_wp2_with fail
    obtain ⟨gm, hgm⟩ : ∃ gm, gm = w1.heap.size := ⟨_, rfl⟩
    obtain ⟨W2, hW2⟩ : ∃ W2, W2 = w1.alloc (.map #[] 0) := ⟨_, rfl⟩
    have hsz : W2.heap.size = gm + 1 := by rw [hW2, hgm]; simp
    rw [← hW2] at b2 hmp hdt ⊢
    rw [← hgm] at hmp b2 ⊢
    have HGM : Hid (gm = w1.heap.size) := hgm
    clear hW2 hgm hmm
    refine hdt.mono ?_
    rintro e w3 ⟨d0, k0, d1, k1, d2, k2, d3, k3, d4, k4, rfl, hO, hb3⟩
    have hmp3 := hmp.below hb3 (by omega)
    have B3 : Below gm w1 w3 := b2.trans (hb3.mono (by omega))
    have bn := box_below w3 (.cells #[.slice d0 ws.length k0, .slice d1 ms.length k1, .slice d2 A.length k2, .slice d3 B.length k3, .slice d4 C.length k4] 42)
    have hD4 := DBox.new w3 (.slice d0 ws.length k0) (.slice d1 ms.length k1) (.slice d2 A.length k2) (.slice d3 B.length k3) (.slice d4 C.length k4)
    have hmp4 := hmp3.below bn (by have := hb3.size; omega)
    have hO4 := (hO.merges).below bn
    have B4 : Below gm w1 (w3.alloc (.cells #[.slice d0 ws.length k0, .slice d1 ms.length k1, .slice d2 A.length k2, .slice d3 B.length k3, .slice d4 C.length k4] 42)) := B3.trans (bn.mono (by have := hb3.size; omega))
    clear hdt hmp hmp3 hO B3 bn b2
    go_wp2_with fail
    obtain ⟨W4, hW4⟩ : ∃ W4, W4 = w3.alloc (.cells #[.slice d0 ws.length k0, .slice d1 ms.length k1, .slice d2 A.length k2, .slice d3 B.length k3, .slice d4 C.length k4] 42) := ⟨_, rfl⟩
    have hs4 : w3.heap.size < W4.heap.size := by rw [hW4]; simp
    have hs3 := hb3.size
    rw [← hW4] at hD4 hmp4 hO4 B4 ⊢
    clear hW4 hb3
    obtain ⟨z, hz⟩ : ∃ z, z = w3.heap.size := ⟨_, rfl⟩
    rw [← hz] at hD4 hs4 ⊢
    rw [hsz, ← hz] at hs3
    clear hz hsz
    have HD4 : Hid (DBox W4 z _ _ _ _ _) := hD4
    have HO4 : Hid (OwnM W4 _ d1 k1 ms) := hO4
    have HB4 : Hid (Below gm w1 W4) := B4
    have HM4 : Hid (MapI W4 3 (fun n : Int => Value.int .i64 n) gm 0 (fun _ => none)) := hmp4
    clear hD4 hO4 B4 hmp4
    go_loopw [8] (fun i wr => ∃ k : Nat, k ≤ ms.length ∧ i = .int .i64 k ∧ MapI wr 3 (fun n : Int => Value.int .i64 n) gm k (seenF ms k) ∧ CK W4 wr ∧ Below gm w1 wr) (fun i _ => ms.length - (intOf i).toNat)
    case atStart => exact ⟨0, Nat.zero_le _, rfl, HM4.out, fun _ _ _ _ h => h, HB4.out⟩
    case round =>
      obtain ⟨k, hk, rfl, hmr, hck, hbr⟩ := hrel
      have HMr : Hid (MapI wr 3 (fun n : Int => Value.int .i64 n) gm k (seenF ms k)) := hmr
      have HCK : Hid (CK W4 wr) := hck
      have HBR : Hid (Below gm w1 wr) := hbr
      have hgmr := hmr.lt
      have hD : DBox wr z (.slice d0 ws.length k0) (.slice d1 ms.length k1) (.slice d2 A.length k2) (.slice d3 B.length k3) (.slice d4 C.length k4) := HCK.out _ _ _ _ HD4.out
      have hMr : ModelAt wr Y.heap.size g ws ms A B C := HMd.out.below (by rw [← HGM.out]; exact HBR.out)
      have HMM : Hid (ModelAt wr Y.heap.size g ws ms A B C) := hMr
      have hG2 : GL wr := hG1.below (by rw [← HGM.out]; exact HBR.out)
      have HGr : Hid (GL wr) := hG2
      have HF3' := HF3.out
      clear hmr hck hbr hMr hG2
      by_cases hlt : k < ms.length
      · obtain ⟨x, hx⟩ : ∃ x, ms[k]? = some x := ⟨_, List.getElem?_eq_getElem hlt⟩
        obtain ⟨wl, wr2, wi⟩ := hwf k x hx
        obtain ⟨q1, q2, q3, q4, q5, q6⟩ := HK.out.cut hx
        obtain ⟨sl, hsl⟩ := HK.out.made_word q4
        obtain ⟨sr, hsr⟩ := HK.out.made_word q5
        have hme := HK.out.merge hx
        unfold joinM at q6
        rw [hsl, hsr] at q6
        simp only [Option.getD_some] at q6
        have hdl : k1 ≠ 0 := by have := HO4.out.le; omega
        obtain ⟨gb, rfl, hMc⟩ : ∃ gb, d1 = some ⟨gb, 0, none⟩ ∧ MgAt wr gb (k * 3) x := by
          rcases HO4.out.row with ⟨h0, -⟩ | ⟨gb, cur, h1, h2, h3, h4, h5⟩
          · exact absurd h0 hdl
          · have h3' := HCK.out _ _ _ _ h3
            obtain ⟨r0, r1, r2⟩ := h5 k x hx
            exact ⟨gb, h1, (cell_of_block h3' _).trans r0, (cell_of_block h3' _).trans r1, (cell_of_block h3' _).trans r2⟩
        have HMc : Hid (MgAt wr gb (k * 3) x) := hMc
        have HX : Hid (ms[k]? = some x) := hx
        have HFi : Hid (seenF ms k x.i = none) := seenF_none (by
          unfold madeM at q3
          simp only [Bool.or_eq_false_iff, Bool.and_eq_false_iff, decide_eq_false_iff_not] at q3
          rcases q3.2 with h | h
          · exact absurd q1 h
          · exact h)
        have HP : Hid (∀ id, madeM ms k id = true → 256 ≤ id → ∃ p, seenF ms k id = some p ∧ 1 ≤ p) := fun id hm h256 => seenF_some (by
          unfold madeM at hm
          simp only [Bool.or_eq_true, Bool.and_eq_true, decide_eq_true_eq] at hm
          rcases hm with ⟨h1, h2⟩ | ⟨h1, h2⟩
          · omega
          · exact h2)
        have HQ4 : Hid (madeM ms k x.l = true) := q4
        have HQ5 : Hid (madeM ms k x.r = true) := q5
        have HKi : Hid (keyOf Tryd.prog 3 (.int .i64 x.i) = some (.int .i64 x.i)) := keyI wi
        have HKl : Hid (keyOf Tryd.prog 3 (.int .i64 x.l) = some (.int .i64 x.l)) := keyI wl
        have HKr : Hid (keyOf Tryd.prog 3 (.int .i64 x.r) = some (.int .i64 x.r)) := keyI wr2
        have hMg := hMc
        have HMe : ∀ wx, Below wr.heap.size wr wx → Calls Tryd.prog 19 #[.pointer (some ⟨g, 0, none⟩), .int .i64 x.l, .int .i64 x.r] wx fun e w' => ∃ v, e = .returned v ∧ Below wx.heap.size wx w' ∧ v = .tuple #[.int .i64 (k : Nat), .int .i64 x.i, .bool true] := fun wx hbx => by
          refine (merge_any g _ ws ms A B C x.l x.r wx wl wr2 (HMM.out.below hbx)).mono ?_
          rintro e w' ⟨rfl, h⟩
          rw [hme]
          exact ⟨_, rfl, h, rfl⟩
        have HWl := fun wx (hbx : Below wr.heap.size wr wx) => mword_any g _ ws ms A B C x.l wx (by omega) (HMM.out.below hbx)
        have HWr := fun wx (hbx : Below wr.heap.size wr wx) => mword_any g _ ws ms A B C x.r wx (by omega) (HMM.out.below hbx)
        have HWi := fun wx (hbx : Below wr.heap.size wr wx) => mword_any g _ ws ms A B C x.i wx (by omega) (HMM.out.below hbx)
        rw [hsl] at HWl
        rw [hsr] at HWr
        rw [q6] at HWi
        unfold wdV at HWl HWr HWi
        simp only [Option.getD_some, Option.isSome_some] at HWl HWr HWi
        have hd0 : decide ((k : Int) < (ms.length : Int)) = true := decide_eq_true (by omega)
        have hsz1 : sl.size ≤ 256 := by have := wordM_size (fun i x hx => (HK.out.words.size hx).2) x.l; rw [hsl] at this; exact this
        have hsz2 : sr.size ≤ 256 := by have := wordM_size (fun i x hx => (HK.out.words.size hx).2) x.r; rw [hsr] at this; exact this
        have hd1 : decide (x.i < 256) = false := decide_eq_false (by omega)
        have c1 := hD.c1
        clear hx hsl hsr hme q4 q5 q6 hMc q3
        go_wp2_with fail
        clear c1
        refine wp_region_mono 21 [41, 42, 43, 44, 45, 46, 47, 48, 49, 50, 51, 52, 53, 54, 40, 55, 56, 57, 9, 10, 11] [qR (.pointer (some ⟨g, 0, none⟩)),
            qR (.pointer (some ⟨z, 1, none⟩)),
            qR (.slice (some ⟨gb, 0, none⟩) ms.length k1),
            qR (.int .i64 (k : Nat)),
            qR (.pointer (some ⟨gb, k * 3, none⟩)),
            qR (.pointer (some ⟨gb, k * 3, none⟩)),
            qR (.int .i64 x.l),
            qR (.pointer (some ⟨z, 1, none⟩)),
            qR (.slice (some ⟨gb, 0, none⟩) ms.length k1),
            qR (.int .i64 (k : Nat)),
            qR (.pointer (some ⟨gb, k * 3, none⟩)),
            qR (.pointer (some ⟨gb, k * 3 + 1, none⟩)),
            qR (.int .i64 x.r),
            qR (.tuple #[.int .i64 (k : Nat), .int .i64 x.i, .bool true]),
            qR (.tuple #[.int .i64 (k : Nat), .int .i64 x.i, .bool true]),
            qR (.int .i64 (k : Nat)),
            qR (.int .i64 x.i),
            qR (.bool true),
            qR (.int .i64 (k : Nat)),
            qR (.int .i64 x.i),
            qR (.bool true)] (by kernel_rfl) (by kernel_rfl) rfl rfl ?stab ?steps ?fin
        case stab =>
          intro φ hφ
          simp only [List.mem_cons, List.not_mem_nil, or_false] at hφ
          rcases hφ with rfl | rfl | rfl | rfl | rfl | rfl | rfl | rfl | rfl | rfl | rfl | rfl | rfl | rfl | rfl | rfl | rfl | rfl | rfl | rfl | rfl
          · exact fun _ _ _ _ h => h
          · exact fun _ _ _ _ h => h
          · exact fun _ _ _ _ h => h
          · exact fun _ _ _ _ h => h
          · exact fun _ _ _ _ h => h
          · exact fun _ _ _ _ h => h
          · exact fun _ _ _ _ h => h
          · exact fun _ _ _ _ h => h
          · exact fun _ _ _ _ h => h
          · exact fun _ _ _ _ h => h
          · exact fun _ _ _ _ h => h
          · exact fun _ _ _ _ h => h
          · exact fun _ _ _ _ h => h
          · exact fun _ _ _ _ h => h
          · exact fun _ _ _ _ h => h
          · exact fun _ _ _ _ h => h
          · exact fun _ _ _ _ h => h
          · exact fun _ _ _ _ h => h
          · exact fun _ _ _ _ h => h
          · exact fun _ _ _ _ h => h
          · exact fun _ _ _ _ h => h
        case steps =>
          have hBx : ∀ wx, Below wr.drew.heap.size wr.drew wx → Below wr.heap.size wr wx := fun wx hb => ⟨hb.os, hb.tape, hb.output, hb.size, hb.block⟩
          refine ⟨?_, ?_, ?_, ?_, ?_, ?_, ?_, ?_, ?_, ?_, ?_, ?_, ?_, ?_, ?_, ?_, ?_, ?_, ?_, ?_, ?_, trivial⟩
          · intro a' he wx hb hd
            have e0 : a'.eval (.tmp 3) = .pointer (some ⟨g, 0, none⟩) := he.get rfl
            exact mStep_read rfl (by simp [execOp, e0]) rfl
          · intro a' he wx hb hd
            have e0 : a'.eval (.tmp 7) = .pointer (some ⟨z, 0, none⟩) := he.get rfl
            refine mStep_read rfl ?_ rfl
            simp only [execOp, e0]
            go_simp
          · intro a' he wx hb hd
            have e0 : a'.eval (.tmp 42) = .pointer (some ⟨z, 1, none⟩) := hd 1 rfl _ _ rfl rfl
            have c := (hD.below (hBx wx hb) hD.lt).c1
            refine mStep_read rfl ?_ rfl
            simp only [execOp, e0]
            go_simp
          · intro a' he wx hb hd
            have e0 : a'.eval (.tmp 8) = .int .i64 (k : Nat) := he.get rfl
            exact mStep_read rfl (by simp [execOp, e0]) rfl
          · intro a' he wx hb hd
            have e0 : a'.eval (.tmp 43) = .slice (some ⟨gb, 0, none⟩) ms.length k1 := hd 2 rfl _ _ rfl rfl
            have e1 : a'.eval (.tmp 44) = .int .i64 (k : Nat) := hd 3 rfl _ _ rfl rfl
            refine mStep_read rfl ?_ rfl
            simp only [execOp, e0, e1]
            go_simp
          · intro a' he wx hb hd
            have e0 : a'.eval (.tmp 45) = .pointer (some ⟨gb, k * 3, none⟩) := hd 4 rfl _ _ rfl rfl
            refine mStep_read rfl ?_ rfl
            simp only [execOp, e0]
            go_simp
          · intro a' he wx hb hd
            have e0 : a'.eval (.tmp 46) = .pointer (some ⟨gb, k * 3, none⟩) := hd 5 rfl _ _ rfl rfl
            have c := (hMg.below (hBx wx hb)).1
            refine mStep_read rfl ?_ rfl
            simp only [execOp, e0]
            go_simp
          · intro a' he wx hb hd
            have e0 : a'.eval (.tmp 7) = .pointer (some ⟨z, 0, none⟩) := he.get rfl
            refine mStep_read rfl ?_ rfl
            simp only [execOp, e0]
            go_simp
          · intro a' he wx hb hd
            have e0 : a'.eval (.tmp 48) = .pointer (some ⟨z, 1, none⟩) := hd 7 rfl _ _ rfl rfl
            have c := (hD.below (hBx wx hb) hD.lt).c1
            refine mStep_read rfl ?_ rfl
            simp only [execOp, e0]
            go_simp
          · intro a' he wx hb hd
            have e0 : a'.eval (.tmp 8) = .int .i64 (k : Nat) := he.get rfl
            exact mStep_read rfl (by simp [execOp, e0]) rfl
          · intro a' he wx hb hd
            have e0 : a'.eval (.tmp 49) = .slice (some ⟨gb, 0, none⟩) ms.length k1 := hd 8 rfl _ _ rfl rfl
            have e1 : a'.eval (.tmp 50) = .int .i64 (k : Nat) := hd 9 rfl _ _ rfl rfl
            refine mStep_read rfl ?_ rfl
            simp only [execOp, e0, e1]
            go_simp
          · intro a' he wx hb hd
            have e0 : a'.eval (.tmp 51) = .pointer (some ⟨gb, k * 3, none⟩) := hd 10 rfl _ _ rfl rfl
            refine mStep_read rfl ?_ rfl
            simp only [execOp, e0]
            go_simp
          · intro a' he wx hb hd
            have e0 : a'.eval (.tmp 52) = .pointer (some ⟨gb, k * 3 + 1, none⟩) := hd 11 rfl _ _ rfl rfl
            have c := (hMg.below (hBx wx hb)).2.1
            refine mStep_read rfl ?_ rfl
            simp only [execOp, e0]
            go_simp
          · intro a' he wx hb hd
            have e0 : a'.eval (.tmp 41) = .pointer (some ⟨g, 0, none⟩) := hd 0 rfl _ _ rfl rfl
            have e1 : a'.eval (.tmp 47) = .int .i64 x.l := hd 6 rfl _ _ rfl rfl
            have e2 : a'.eval (.tmp 53) = .int .i64 x.r := hd 12 rfl _ _ rfl rfl
            exact mStep_call rfl (by simp [execOp, e0, e1, e2, resolve]; rfl) (HMe wx (hBx wx hb))
          · intro a' he wx hb hd
            have e0 : a'.eval (.tmp 54) = .tuple #[.int .i64 (k : Nat), .int .i64 x.i, .bool true] := hd 13 rfl _ _ rfl rfl
            exact mStep_read rfl (by simp [execOp, e0]) rfl
          · intro a' he wx hb hd
            have e0 : a'.eval (.tmp 40) = .tuple #[.int .i64 (k : Nat), .int .i64 x.i, .bool true] := hd 14 rfl _ _ rfl rfl
            refine mStep_read rfl ?_ rfl
            simp only [execOp, e0]
            go_simp
          · intro a' he wx hb hd
            have e0 : a'.eval (.tmp 40) = .tuple #[.int .i64 (k : Nat), .int .i64 x.i, .bool true] := hd 14 rfl _ _ rfl rfl
            refine mStep_read rfl ?_ rfl
            simp only [execOp, e0]
            go_simp
          · intro a' he wx hb hd
            have e0 : a'.eval (.tmp 40) = .tuple #[.int .i64 (k : Nat), .int .i64 x.i, .bool true] := hd 14 rfl _ _ rfl rfl
            refine mStep_read rfl ?_ rfl
            simp only [execOp, e0]
            go_simp
          · intro a' he wx hb hd
            have e0 : a'.eval (.tmp 55) = .int .i64 (k : Nat) := hd 15 rfl _ _ rfl rfl
            exact mStep_read rfl (by simp [execOp, e0]) rfl
          · intro a' he wx hb hd
            have e0 : a'.eval (.tmp 56) = .int .i64 x.i := hd 16 rfl _ _ rfl rfl
            exact mStep_read rfl (by simp [execOp, e0]) rfl
          · intro a' he wx hb hd
            have e0 : a'.eval (.tmp 57) = .bool true := hd 17 rfl _ _ rfl rfl
            exact mStep_read rfl (by simp [execOp, e0]) rfl
        case fin =>
          rintro wx hb _ rfl _ rfl _ rfl _ rfl _ rfl _ rfl _ rfl _ rfl _ rfl _ rfl _ rfl _ rfl _ rfl _ rfl _ rfl _ rfl _ rfl _ rfl _ rfl _ rfl _ rfl
          simp only [finV, Act.put, List.setIfInBounds_toArray, List.set_cons_succ, List.set_cons_zero, List.drop_succ_cons, List.drop_zero]
          have hbwx : Below wr.heap.size wr wx := ⟨hb.os, hb.tape, hb.output, hb.size, hb.block⟩
          have c1 := (hD.below hbwx hD.lt).c1
          have m0 := (HMc.out.below hbwx).1
          have m1 := (HMc.out.below hbwx).2.1
          clear hb HMe hMg
          go_wp2_with fail
          clear c1 m0 m1
          refine (HWl wx hbwx).mono ?_
          rintro e v1 ⟨rfl, hbb⟩
          have hbv1 := hbwx.trans (hbb.mono hbwx.size)
          have hDv1 := hD.below hbv1 hD.lt
          have c1 := hDv1.c1
          have m0 := (HMc.out.below hbv1).1
          have m1 := (HMc.out.below hbv1).2.1
          have m2 := (HMc.out.below hbv1).2.2
          clear hbb HWl
          go_wp2_with fail
          clear c1 m0 m1 m2 hDv1 hbwx
          refine (HWr v1 hbv1).mono ?_
          rintro e v2 ⟨rfl, hbb⟩
          have hbv2 := hbv1.trans (hbb.mono hbv1.size)
          have hDv2 := hD.below hbv2 hD.lt
          have c1 := hDv2.c1
          have m0 := (HMc.out.below hbv2).1
          have m1 := (HMc.out.below hbv2).2.1
          have m2 := (HMc.out.below hbv2).2.2
          clear hbb HWr
          go_wp2_with fail
          clear c1 m0 m1 m2 hDv2 hbv1
          refine (HWi v2 hbv2).mono ?_
          rintro e v3 ⟨rfl, hbb⟩
          have hbv3 := hbv2.trans (hbb.mono hbv2.size)
          have hDv3 := hD.below hbv3 hD.lt
          have c1 := hDv3.c1
          have m0 := (HMc.out.below hbv3).1
          have m1 := (HMc.out.below hbv3).2.1
          have m2 := (HMc.out.below hbv3).2.2
          clear hbb HWi
          have HMp : Hid (MapI v3 3 (fun n : Int => Value.int .i64 n) gm k (seenF ms k)) := HMr.out.below hbv3 hgmr
          have hca : ((sl ++ sr).toList != (sl ++ sr).toList) = false := by simp
          have hki : ((x.i : Int) != x.i) = false := by simp
          clear hbv2 hDv3
          have fin : ∀ w5, MapI w5 3 (fun n : Int => Value.int .i64 n) gm (k + 1) (fun z => if z = x.i then some ((k : Int) + 1) else seenF ms k z) → v3.grownBy w5 (some gm) → MapI w5 3 (fun n : Int => Value.int .i64 n) gm (k + 1) (seenF ms (k + 1)) ∧ CK W4 w5 ∧ Below gm w1 w5 := fun w5 hM5 hg5 => by
            have hbt : But gm v3.heap.size v3 w5 := (But.refl _ _ _).grown hg5 (Nat.le_refl _)
            refine ⟨by rw [seenF_step HX.out]; exact hM5, (HCK.out.trans (CK.of_below hbv3)).trans (hbt.ck HMp.out), ?_⟩
            exact (HBR.out.trans (hbv3.mono (Nat.le_of_lt hgmr))).trans (hbt.below (by have := hbv3.size; omega) (Nat.le_refl _))
          have FIN : Hid (∀ w5, MapI w5 3 (fun n : Int => Value.int .i64 n) gm (k + 1) (fun z => if z = x.i then some ((k : Int) + 1) else seenF ms k z) → v3.grownBy w5 (some gm) → MapI w5 3 (fun n : Int => Value.int .i64 n) gm (k + 1) (seenF ms (k + 1)) ∧ CK W4 w5 ∧ Below gm w1 w5) := fin
          clear fin
          have hleft : (∃ pl, Hid (seenF ms k x.l = some pl) ∧ (pl == 0) = false ∧ decide (256 ≤ x.l) = true) ∨ decide (256 ≤ x.l) = false := by
            by_cases h : 256 ≤ x.l
            · obtain ⟨p, h1, h2⟩ := HP.out x.l HQ4.out h
              exact .inl ⟨p, h1, by simp; omega, decide_eq_true h⟩
            · exact .inr (decide_eq_false h)
          have hright : (∃ pr, Hid (seenF ms k x.r = some pr) ∧ (pr == 0) = false ∧ decide (256 ≤ x.r) = true) ∨ decide (256 ≤ x.r) = false := by
            by_cases h : 256 ≤ x.r
            · obtain ⟨p, h1, h2⟩ := HP.out x.r HQ5.out h
              exact .inl ⟨p, h1, by simp; omega, decide_eq_true h⟩
            · exact .inr (decide_eq_false h)
          have hli := HMp.out.get (t := 59) lawI Tryd.underlying59 HKi.out
          rw [HFi.out] at hli
          simp only [Option.getD_none] at hli
          rcases hleft with ⟨pl, HFl, hpl, hgl⟩ | hgl <;> rcases hright with ⟨pr, HFr, hpr, hgr⟩ | hgr
          · have hll := HMp.out.get (t := 59) lawI Tryd.underlying59 HKl.out
            rw [HFl.out] at hll
            have hlr := HMp.out.get (t := 59) lawI Tryd.underlying59 HKr.out
            rw [HFr.out] at hlr
            simp only [Option.getD_some] at hll hlr
            go_wp2_with (first | (at_mapUpdate; refine wpList_store _ rfl _ _ _ 59 rfl lawI intV_inj Tryd.underlying59 rfl HMp.out (by unfold maxLen; omega) x.i _ ((k : Int) + 1) rfl rfl HKi.out HFi.out (WalkArith.wf_i64 (by omega)) ?_; intro w5 hM5 hg5) | fail)
            exact ⟨⟨k + 1, by omega, by go_num, FIN.out w5 hM5 hg5⟩, by simp only [intOf]; omega⟩
          · have hll := HMp.out.get (t := 59) lawI Tryd.underlying59 HKl.out
            rw [HFl.out] at hll
            simp only [Option.getD_some] at hll
            go_wp2_with (first | (at_mapUpdate; refine wpList_store _ rfl _ _ _ 59 rfl lawI intV_inj Tryd.underlying59 rfl HMp.out (by unfold maxLen; omega) x.i _ ((k : Int) + 1) rfl rfl HKi.out HFi.out (WalkArith.wf_i64 (by omega)) ?_; intro w5 hM5 hg5) | fail)
            exact ⟨⟨k + 1, by omega, by go_num, FIN.out w5 hM5 hg5⟩, by simp only [intOf]; omega⟩
          · have hlr := HMp.out.get (t := 59) lawI Tryd.underlying59 HKr.out
            rw [HFr.out] at hlr
            simp only [Option.getD_some] at hlr
            go_wp2_with (first | (at_mapUpdate; refine wpList_store _ rfl _ _ _ 59 rfl lawI intV_inj Tryd.underlying59 rfl HMp.out (by unfold maxLen; omega) x.i _ ((k : Int) + 1) rfl rfl HKi.out HFi.out (WalkArith.wf_i64 (by omega)) ?_; intro w5 hM5 hg5) | fail)
            exact ⟨⟨k + 1, by omega, by go_num, FIN.out w5 hM5 hg5⟩, by simp only [intOf]; omega⟩
          · go_wp2_with (first | (at_mapUpdate; refine wpList_store _ rfl _ _ _ 59 rfl lawI intV_inj Tryd.underlying59 rfl HMp.out (by unfold maxLen; omega) x.i _ ((k : Int) + 1) rfl rfl HKi.out HFi.out (WalkArith.wf_i64 (by omega)) ?_; intro w5 hM5 hg5) | fail)
            exact ⟨⟨k + 1, by omega, by go_num, FIN.out w5 hM5 hg5⟩, by simp only [intOf]; omega⟩
      · have hkn : k = ms.length := by omega
        subst hkn
        have hlen := HMr.out.len (t := 59) Tryd.underlying59 3
        have hse : ((ms.length : Int) == (256 + (ws.length : Int) - 256)) = true := by rw [hnm.out]; simp; omega
        have hs2 : (256 + (ws.length : Int) - 256) = (ms.length : Int) := by rw [hnm.out]; omega
        have hBR : Below w1.heap.size w1 wr := by rw [← HGM.out]; exact HBR.out
        have B5 := B1.trans (hBR.mono B1.size)
        have c1 := hD.c1
        have hss := msize_any g _ ws ms A B C wr (by omega) HMM.out
        go_wp2_with fail
        refine hss.mono ?_
        rintro e _ ⟨rfl, rfl⟩
        clear hss
        go_wp2_with fail
        refine (known_any _ HGr.out).mono ?_
        rintro e w6 ⟨rfl, hb6⟩
        go_wp2_with fail
        go_ret
        exact ⟨rfl, B5.trans (hb6.mono B5.size)⟩
end Go.Proofs.YtlnebbciefdpoaaDoor
