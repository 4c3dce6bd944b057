import Derived.Test.YtjbdhakogbolkaaDoorJ18
import Derived.Test.YtjbdhakogbolkaaDoorJ19
import Derived.Test.YtjbdhakogbolkaaDoorJ17
import Derived.Test.YtjbdhakogbolkaaDoorJ16
section
/- bpe.Joined; the law's known: their contracts. -/
namespace Go.Proofs.YtjbdhakogbolkaaDoor
open Go.RowKit Go.Joins Go.Sort
set_option linter.unusedVariables false
set_option linter.unusedSimpArgs false
set_option maxRecDepth 100000
theorem joined_no (p : Option Addr) (a : Option Addr) (n c : Nat) (w : World) (h : refuF p n ≠ 0) :
    Calls Tryd.prog 11 #[.pointer p, .slice a n c] w fun e w' => e = .returned (.tuple #[.slice none 0 0, .int .i64 (refuF p n)]) ∧ w' = w := by
  have HR := refusal_any p n w
  obtain ⟨y, hy⟩ : ∃ y, y = refuF p n := ⟨_, rfl⟩
  rw [← hy] at h HR ⊢
  have d : (y != 0) = true := by simpa using h
  clear hy h
  go_enter Tryd.func11, Tryd.ntmps11
  go_wp2_with fail
  refine HR.mono ?_
  rintro e w1 ⟨rfl, he⟩
  obtain rfl := he.symm
  clear HR
  go_wp2_with fail
  exact bodyPost_ret (v := .tuple #[.slice none 0 0, .int .i64 y]) (by simp [results, Tryd.results11, go_sem]) rfl ⟨rfl, rfl⟩
/-- Are all ids known? -/
def allK (ws : List ByteArray) (l : List Int) : Bool := l.all fun x => (wordM ws x).isSome
theorem allK_yes {ws : List ByteArray} {l : List Int} (h : allK ws l = true) : KnJ ws l := fun x hx => by
  have := List.all_eq_true.1 h x hx
  cases hw : wordM ws x with
  | none => rw [hw] at this; cases this
  | some w => exact ⟨w, rfl⟩
theorem KnJ.all {ws : List ByteArray} {l : List Int} (h : KnJ ws l) : allK ws l = true := by
  refine List.all_eq_true.2 fun x hx => ?_
  obtain ⟨w, hw⟩ := h x hx
  rw [hw]; rfl
set_option maxHeartbeats 2000000 in
theorem bjoin_any (mg lo : Nat) (a : Option Addr) (c : Nat) (l : List Int) (ws : List ByteArray) (ms : List Mg) (A B C : List Sp) (w : World) (hl : l.length ≤ 1048576) (hn : ws.length ≤ 4611686018427387904) (hin : CH.INS w a l) (hW : ∀ x ∈ l, W64 x) (hMI : ∀ l r k i, mergeM ms l r = some (k, i) → W64 i) (hM : ModelAt w lo mg ws ms A B C) :
    Calls Tryd.prog 11 #[.pointer (some ⟨mg, 0, none⟩), .slice a l.length c] w fun e w' => (allK ws l = false → e = .returned (.tuple #[.slice none 0 0, .int .i64 24])) ∧ (allK ws l = true → ∃ v r st, e = .returned (.tuple #[v, .int .i64 0]) ∧ RowN w' w.heap.size v r ∧ JR ms l st r) ∧ Below w.heap.size w w' := by
  have HR := refusal_any (some ⟨mg, 0, none⟩) l.length w
  rw [show refuF (some ⟨mg, 0, none⟩) l.length = 0 by unfold refuF; rw [if_neg (by simp), if_neg (by omega)]] at HR
  have hlow : lo ≤ w.heap.size := by
    obtain ⟨a0, c0, a1, c1, a2, c2, a3, c3, a4, c4, gt, gr, h1, h2, h3, h4⟩ := hM
    have := (Array.getElem?_eq_some_iff.1 h3).1
    omega
  obtain ⟨n, hnn⟩ : ∃ n, n = l.length := ⟨_, rfl⟩
  have HN : Hid (n = l.length) := hnn
  rw [← hnn] at HR hl ⊢
  clear hnn
  obtain ⟨ak, hak⟩ : ∃ ak, ak = allK ws l := ⟨_, rfl⟩
  have HAK : Hid (ak = allK ws l) := hak
  rw [← hak]
  clear hak
  go_enter Tryd.func11, Tryd.ntmps11
  go_wp2_with fail
  refine HR.mono ?_
  rintro e w1 ⟨rfl, he⟩
  obtain rfl := he.symm
  clear HR
  go_wp2_with fail
  go_loopw [20] (fun v wr => ∃ k : Nat, k ≤ n ∧ v = .int .i64 (k : Nat) ∧ (∀ (i : Nat) (x : Int), i < k → l[i]? = some x → (wordM ws x).isSome = true) ∧ Below w.heap.size w wr) (fun v _ => n - (intOf v).toNat)
  case atStart => exact ⟨0, Nat.zero_le _, rfl, fun i x h => by omega, Below.refl _ _⟩
  case round =>
    obtain ⟨k, hk, rfl, hkn, hB⟩ := hrel
    by_cases hlt : k < n
    · have d : decide ((k : Int) < (n : Int)) = true := decide_eq_true (by omega)
      obtain ⟨x, hx⟩ : ∃ x, l[k]? = some x := ⟨_, List.getElem?_eq_getElem (by rw [← HN.out]; exact hlt)⟩
      obtain ⟨b, off, rfl, c0⟩ := INS.at' (INS.below' hin hB) hx
      have HWd := mword_any mg lo ws ms A B C x wr hn (hM.below hB)
      have bi : 0 ≤ (k : Int) ∧ (k : Int) < (n : Int) := by omega
      obtain ⟨o, ho⟩ : ∃ o, o = wordM ws x := ⟨_, rfl⟩
      rw [← ho] at HWd
      unfold wdV at HWd
      have HX : Hid (l[k]? = some x) := hx
      have HKN : Hid (∀ (i : Nat) (x : Int), i < k → l[i]? = some x → (wordM ws x).isSome = true) := hkn
      have HO : Hid (o = wordM ws x) := ho
      have HIN : Hid (CH.INS w (some ⟨b, off, none⟩) l) := hin
      have HW64 : Hid (∀ x ∈ l, W64 x) := hW
      have HMI : Hid (∀ l r k i, mergeM ms l r = some (k, i) → W64 i) := hMI
      clear hx hkn ho hin hW hMI
      cases o with
      | none =>
        have hf : allK ws l = false := by
          cases hc : allK ws l with
          | false => rfl
          | true =>
            have := List.all_eq_true.1 hc x (List.mem_of_getElem? HX.out)
            rw [← HO.out] at this
            cases this
        obtain rfl : ak = false := HAK.out.trans hf
        clear hf
        go_wp2_with fail
        refine HWd.mono ?_
        rintro e w3 ⟨rfl, hb3⟩
        clear HWd c0
        go_wp2_with fail
        refine bodyPost_ret (v := .tuple #[.slice none 0 0, .int .i64 24]) (by simp [results, Tryd.results11, go_sem]) rfl ⟨rfl, hB.trans (hb3.mono hB.size)⟩
      | some t =>
        go_wp2_with fail
        refine HWd.mono ?_
        rintro e w3 ⟨rfl, hb3⟩
        clear HWd c0
        go_wp2_with fail
        refine ⟨⟨k + 1, by omega, by simp, fun i y hi hy => ?_, hB.trans (hb3.mono hB.size)⟩, by simp only [intOf]; omega⟩
        by_cases e : i = k
        · subst e
          rw [HX.out] at hy
          cases hy
          rw [← HO.out]; rfl
        · exact HKN.out i y (by omega) hy
    · obtain rfl : k = n := by omega
      have d : decide ((k : Int) < (k : Int)) = false := decide_eq_false (by omega)
      have hall : allK ws l = true := List.all_eq_true.2 fun x hx => by
        obtain ⟨i, hi⟩ := List.mem_iff_getElem?.1 hx
        exact hkn i x (by have := (List.getElem?_eq_some_iff.1 hi).1; rw [HN.out]; exact this) hi
      obtain rfl : ak = true := HAK.out.trans hall
      have HCl := cloneN_any a c l wr (by rw [← HN.out]; omega) (INS.below' hin hB)
      rw [← HN.out] at HCl
      clear hkn hall hin
      go_wp2_with fail
      refine HCl.mono ?_
      rintro e w3 ⟨v, rfl, hv3, hb3⟩
      clear HCl
      obtain ⟨ia, ic, ib, rfl, hid3⟩ := hv3.ids
      rw [← HN.out] at hid3 ⊢
      have B3 := hB.trans (hb3.mono hB.size)
      have hWg : ∀ j, j < k → W64 (getI l j) := fun j hj => by
        have hjl : j < l.length := by rw [← HN.out]; exact hj
        unfold getI
        rw [List.getElem?_eq_getElem hjl]
        exact hW _ (List.getElem_mem hjl)
      have HNR := newRow_any wr.heap.size mg ib lo ia ic k (getI l) ws ms A B C w3 hl hid3 (hM.below B3) hWg hb3.size
      have hszr := hB.size
      clear hv3 hid3
      go_wp2_with fail
      refine HNR.mono ?_
      rintro e w4 ⟨r, ib', cg, cb, hg, hv, H, rfl, hR4, hib, hlt4, hH4, hC4, hl4, hb4⟩
      clear HNR
      have hcn : CH.cntG (CH.inn0 k) k = k := CH.cnt_all (Nat.le_refl _)
      have B4 := B3.trans (hb4.mono B3.size)
      have HJ := bjoined_any wr.heap.size r mg ib' cg cb hg lo _ _ k hv (CH.inn0 k, getI l) H ws ms A B C w w4 hMI hM hszr hib hlt4 B4 (by rw [hcn]; exact hR4) hWg hH4 hC4 (by rw [hcn]; omega)
      have hvw : vwJ (CH.inn0 k) k (getI l) = l := by rw [HN.out]; exact vw_getI l
      rw [hvw] at HJ
      have hs4 := B4.size
      clear hR4 hib hlt4 hH4 hC4 hl4 hb4 hb3 hcn hvw hWg B3
      go_wp2_with fail
      refine HJ.mono ?_
      rintro e w5 ⟨v, lr, st, rfl, hv5, hj5, hb5, hnb⟩
      clear HJ
      have B5 := B4.trans (hb5.mono hszr)
      have hv6 : RowN w5 w.heap.size v lr := ⟨hv5.1, by
        rcases hv5.2 with h0 | ⟨b, cap, cur, e, hb, rr⟩
        · exact .inl h0
        · exact .inr ⟨b, cap, cur, e, Nat.le_trans hs4 hb, rr⟩⟩
      clear hv5
      go_wp2_with fail
      exact bodyPost_ret (v := .tuple #[v, .int .i64 0]) (by simp [results, Tryd.results11, go_sem]) rfl ⟨⟨v, rfl, lr, hv6, st, hj5⟩, B5⟩
theorem the_ab : ∃ st, JR houM (byL ⟨#[116, 104, 101, 32, 97, 98]⟩) st [259, 32, 256] := by
  have e0 : byL ⟨#[116, 104, 101, 32, 97, 98]⟩ = [116, 104, 101, 32, 97, 98] := by decide +kernel
  have e1 : repl [116, 104, 101, 32, 97, 98] 4 256 = [116, 104, 101, 32, 256] := by decide +kernel
  have e2 : repl [116, 104, 101, 32, 256] 0 258 = [258, 101, 32, 256] := by decide +kernel
  have e3 : repl [258, 101, 32, 256] 0 259 = [259, 32, 256] := by decide +kernel
  rw [e0]
  refine ⟨[(0, 4), (2, 0), (3, 0)], JR.step (k := 0) (a := 4) (i := 256) (nxC_some (by decide +kernel)) ?_⟩
  rw [e1]
  refine JR.step (k := 2) (a := 0) (i := 258) (nxC_some (by decide +kernel)) ?_
  rw [e2]
  refine JR.step (k := 3) (a := 0) (i := 259) (nxC_some (by decide +kernel)) ?_
  rw [e3]
  exact JR.done (nxC_none (by decide +kernel))
set_option maxHeartbeats 2000000 in
theorem known10_any (w : World) (hG : GL w) : Calls Tryd.prog 15 #[] w fun e w' => e = .returned (.bool true) ∧ Below w.heap.size w w' := by
  have HO := fun (s0 s1 a b c : Option Addr) (wx : World) (h1 : WSP wx s0 houW) (h2 : MSP wx s1 houM) (h3 : Lst wx a 2 houA) (h4 : Lst wx b 1 houB) (h5 : Lst wx c 2 houC) (hg : GL wx) => keepOf_any s0 s1 a b c 6 6 2 1 2 houW houM houA houB houC wx hou_wf (by decide) h1 h2 h3 h4 h5 hg
  rw [hou_up] at HO
  rw [show houA.length = 2 from rfl, show houB.length = 1 from rfl, show houC.length = 2 from rfl, show houW.length = 6 from rfl, show houM.length = 6 from rfl] at HO
  have H1 := fun (g : Nat) (wx : World) lo (h : ModelAt wx lo g houW houM houA houB houC) => bmerge_any g lo ⟨#[116, 104, 101, 32, 97, 98]⟩ houW houM houA houB houC wx (by decide) (mergeM_W64 hou_wf) h
  go_enter Tryd.func15, Tryd.ntmps15
  go_wp2_with fail
  refine (house_any _).mono ?_
  rintro e w1 ⟨s0, s1, a, b, c, rfl, hW, hM, hA, hB, hC, hb1⟩
  have HO := HO s0 s1 a b c w1 hW hM ⟨Nat.le_refl _, by omega, hA⟩ ⟨Nat.le_refl _, by omega, hB⟩ ⟨Nat.le_refl _, by omega, hC⟩ (hG.below hb1)
  clear hW hM hA hB hC
  go_wp2_with fail
  refine HO.mono ?_
  rintro e w2 ⟨p, rfl, h2, -, hb2⟩
  obtain ⟨g, rfl, hMd⟩ := h2 rfl
  have B2 := hb1.trans (hb2.mono hb1.size)
  clear HO h2 hb1 hb2 hG
  go_wp2_with fail
  refine (H1 g _ _ hMd).mono ?_
  rintro e w3 ⟨v, l, st, rfl, hv3, hj3, hb3, hnb⟩
  obtain ⟨st', hj'⟩ := the_ab
  obtain ⟨-, rfl⟩ := hj3.uniq hj'
  obtain ⟨a3, c3, rfl, hi3⟩ := hv3.ins
  have B3 := B2.trans (hb3.mono B2.size)
  obtain ⟨w4, hw4⟩ : ∃ w4, w4 = w3.alloc (.cells #[.int .i64 259, .int .i64 32, .int .i64 256] 3) := ⟨_, rfl⟩
  have hb4 : Below w3.heap.size w3 w4 := by rw [hw4]; exact (Below.refl _ w3).alloc (Nat.le_refl _) _
  have hi4 : CH.INS w4 (some ⟨w3.heap.size, 0, none⟩) [259, 32, 256] := by
    refine .inr ⟨w3.heap.size, 0, rfl, fun i x hx => ?_⟩
    have hk : w4.heap[w3.heap.size]? = some (.cells #[.int .i64 259, .int .i64 32, .int .i64 256] 3 (0, 0)) := by rw [hw4]; exact heap_alloc_new w3 _
    rw [cell_of_block hk, Nat.zero_add]
    match i, hx with
    | 0, hx => cases hx; rfl
    | 1, hx => cases hx; rfl
    | 2, hx => cases hx; rfl
  have HS := sameN_any a3 (some ⟨w3.heap.size, 0, none⟩) c3 3 [259, 32, 256] w4 (by decide) (INS.below' hi3 hb4) hi4
  rw [show (([259, 32, 256] : List Int).length) = 3 from rfl] at HS ⊢
  clear hv3 hj3 hj' hi3 hi4 H1 hMd hb3
  go_wp2_with fail
  rw [← hw4]
  refine HS.mono ?_
  rintro e w5 ⟨rfl, hb5⟩
  clear HS
  go_wp2_with fail
  go_ret
  exact ⟨rfl, (B3.trans (hb4.mono B3.size)).trans (hb5.mono (by have := B3.size; have := hb4.size; omega))⟩
end Go.Proofs.YtjbdhakogbolkaaDoor
end
section
/- BpeEnds: its walk. -/
namespace Go.Proofs.YtjbdhakogbolkaaDoor
open Go.RowKit Go.Joins Go.Sort
set_option linter.unusedVariables false
set_option linter.unusedSimpArgs false
set_option maxRecDepth 100000
theorem sz_list (b : ByteArray) : b.data.toList.length = b.size := Array.length_toList
theorem byte_known (ws : List ByteArray) (x : Int) (h : 0 ≤ x ∧ x < 256) : wordM ws x = some (byteS x) := by unfold wordM; rw [if_pos h]
theorem byL_known (ws : List ByteArray) (s : ByteArray) : KnJ ws (byL s) := fun x hx => by
  unfold byL at hx
  obtain ⟨c, _, rfl⟩ := List.mem_map.1 hx
  have := c.toNat_lt
  exact ⟨_, byte_known ws _ (by omega)⟩
theorem byL_text (ws : List ByteArray) (s : ByteArray) : txJ ws (byL s) = s.data.toList := by
  unfold txJ byL
  rw [List.flatMap_map]
  have h : ∀ l : List UInt8, l.flatMap (fun c => ((wordM ws (c.toNat : Int)).getD ⟨#[]⟩).data.toList) = l := by
    intro l
    induction l with
    | nil => rfl
    | cons c l ih =>
      rw [List.flatMap_cons, ih, byte_known ws _ (by have := c.toNat_lt; omega)]
      have : (byteS (c.toNat : Int)).data.toList = [c] := by
        unfold byteS
        simp
      simp [this]
  exact h _
theorem KnJ.w64 {ws : List ByteArray} {l : List Int} (h : KnJ ws l) (hn : ws.length ≤ 9223372036854775000) : ∀ x ∈ l, W64 x := fun x hx => by
  obtain ⟨w, hw⟩ := h x hx
  unfold wordM at hw
  unfold W64
  by_cases h0 : 0 ≤ x ∧ x < 256
  · omega
  · rw [if_neg h0] at hw
    by_cases h1 : 256 ≤ x
    · rw [if_pos h1] at hw
      have := (List.getElem?_eq_some_iff.1 hw).1
      omega
    · rw [if_neg h1] at hw; cases hw
theorem txJ_take (ws : List ByteArray) (l : List Int) (k : Nat) (x : Int) (hx : l[k]? = some x) : txJ ws (l.take (k + 1)) = txJ ws (l.take k) ++ ((wordM ws x).getD ⟨#[]⟩).data.toList := by
  rw [List.take_add_one, hx, txJ_append]
  simp [txJ]
theorem txJ_le (ws : List ByteArray) (l : List Int) (k : Nat) : (txJ ws (l.take k)).length ≤ (txJ ws l).length := by
  conv => rhs; rw [← List.take_append_drop k l, txJ_append, List.length_append]
  omega
set_option maxHeartbeats 4000000 in
theorem ends_walk (aw am a b c : Option Addr) (cw cm ca cb cc : Nat) (ws : List ByteArray) (ms : List Mg) (A B C : List Sp) (s0 : ByteArray) (w : World) (hwf : MWf ms) (hn : ws.length ≤ 8796093022208 ∧ ms.length ≤ 5864062014805 ∧ A.length ≤ 17592186044416 ∧ B.length ≤ 17592186044416 ∧ C.length ≤ 17592186044416) (hW : WSP w aw ws) (hM : MSP w am ms) (hA : Lst w a ca A) (hB : Lst w b cb B) (hC : Lst w c cc C) (hG : GL w) :
    Calls Tryd.prog 6 #[.agg #[.slice aw ws.length cw, .slice am ms.length cm, .slice a A.length ca, .slice b B.length cb, .slice c C.length cc], .string s0] w fun e w' => e = .returned (.bool true) ∧ Below w.heap.size w w' := by
  have hD := DBox.new w (.slice aw ws.length cw) (.slice am ms.length cm) (.slice a A.length ca) (.slice b B.length cb) (.slice c C.length cc)
  have hb0 := box_below w (.cells #[.slice aw ws.length cw, .slice am ms.length cm, .slice a A.length ca, .slice b B.length cb, .slice c C.length cc] 30)
  have HW : Hid (WSP w aw ws) := hW
  have HM : Hid (MSP w am ms) := hM
  have HA : Hid (Lst w a ca A) := hA
  have HB : Hid (Lst w b cb B) := hB
  have HC : Hid (Lst w c cc C) := hC
  have HG : Hid (GL w) := hG
  have HMI := mergeM_W64 hwf
  clear hW hM hA hB hC hG
  have x0 := hD.c0
  have x1 := hD.c1
  have x2 := hD.c2
  have x3 := hD.c3
  have x4 := hD.c4
  go_enter Tryd.func6, Tryd.ntmps6
  go_wp2_with fail
  obtain ⟨Y, hY⟩ : ∃ Y, Y = w.alloc (.cells #[.slice aw ws.length cw, .slice am ms.length cm, .slice a A.length ca, .slice b B.length cb, .slice c C.length cc] 30) := ⟨_, rfl⟩
  rw [← hY] at hb0 ⊢
  clear hY x0 x1 x2 x3 x4 hD
  refine (keepOf_any aw am a b c cw cm ca cb cc ws ms A B C Y hwf (by omega) (HW.out.below hb0) (HM.out.below hb0) (HA.out.below hb0) (HB.out.below hb0) (HC.out.below hb0) (HG.out.below hb0)).mono ?_
  rintro e w1 ⟨p, rfl, hp1, hp2, hb1⟩
  have B1 := hb0.trans (hb1.mono hb0.size)
  have hG1 := HG.out.below B1
  clear HW HM HA HB HC HG
  cases hU : upB ws ms A B C with
  | false =>
    obtain rfl := hp2 hU
    clear hp1 hp2 hU hb1 hb0 HMI
    go_wp2_with fail
    refine (known10_any w1 hG1).mono ?_
    rintro e w9 ⟨rfl, hb9⟩
    go_wp2_with fail
    go_ret
    exact ⟨rfl, B1.trans (hb9.mono B1.size)⟩
  | true =>
    obtain ⟨g, rfl, hMd⟩ := hp1 hU
    have hk := upB_ok hU
    have HK : Hid (MOk ws ms A B C) := hk
    clear hp1 hp2 hU hb1 hb0 hk
    obtain ⟨s, hs⟩ : ∃ s, s = fewF s0 3000 := ⟨_, rfl⟩
    have hsz : s.size ≤ 3000 := by rw [hs]; exact fewF_size _ _
    have HF := few10_any s0 3000 w1
    rw [← hs] at HF
    rw [show ((3000 : Nat) : Int) = 3000 from rfl] at HF
    clear hs
    have HMe := bmerge_any g _ s ws ms A B C w1 (by omega) HMI hMd
    go_wp2_with fail
    refine HF.mono ?_
    rintro e w2 ⟨rfl, he⟩
    obtain rfl := he.symm
    clear HF
    go_wp2_with fail
    refine HMe.mono ?_
    rintro e w3 ⟨v, l, st, rfl, hv3, hj3, hb3, hnb⟩
    clear HMe
    have B3 := B1.trans (hb3.mono B1.size)
    obtain ⟨ia, ic, rfl, hi3⟩ := hv3.ins
    obtain ⟨hkn, htx⟩ := hj3.words HK.out (byL_known ws s)
    rw [byL_text] at htx
    have hno := hj3.fin
    have hll : l.length ≤ 3000 := by
      have := hj3.len
      rw [byL_length] at this
      omega
    have hM3 := hMd.below hb3
    have hG3 := hG1.below hb3
    obtain ⟨n, hnn⟩ : ∃ n, n = l.length := ⟨_, rfl⟩
    have HN : Hid (n = l.length) := hnn
    rw [← hnn] at hll ⊢
    have HTX : Hid (txJ ws l = s.data.toList) := htx
    have HKN : Hid (KnJ ws l) := hkn
    have HNO : Hid (NoN ms l) := hno
    have HI : Hid (CH.INS w3 ia l) := hi3
    have HMI' : Hid (∀ l r k i, mergeM ms l r = some (k, i) → W64 i) := HMI
    clear hnn hv3 hj3 hi3 hkn htx hno hMd hG1 hb3 HMI
    go_wp2_with fail
    go_loopw [10, 11] (fun v10 v11 wr => ∃ (k : Nat) (acc : ByteArray), k ≤ n ∧ v10 = .string acc ∧ v11 = .int .i64 (k : Nat) ∧ acc.data.toList = txJ ws (l.take k) ∧ Below w3.heap.size w3 wr) (fun _ v11 _ => n - (intOf v11).toNat)
    case atStart => exact ⟨0, _, Nat.zero_le _, rfl, rfl, rfl, Below.refl _ _⟩
    case round =>
      obtain ⟨k, acc, hk, rfl, rfl, hacc, hBr⟩ := hrel
      have HACC : Hid (acc.data.toList = txJ ws (l.take k)) := hacc
      have hB4 := B3.trans (hBr.mono B3.size)
      have haz : acc.size ≤ 3000 := by
        have h1 := congrArg List.length hacc
        have h2 := txJ_le ws l k
        rw [HTX.out, sz_list] at h2
        rw [sz_list] at h1
        omega
      clear hacc
      by_cases hlt : k < n
      · have d : decide ((k : Int) < (n : Int)) = true := decide_eq_true (by omega)
        have hkl : k < l.length := by rw [← HN.out]; exact hlt
        obtain ⟨x, hx⟩ : ∃ x, l[k]? = some x := ⟨_, List.getElem?_eq_getElem hkl⟩
        obtain ⟨t, ht⟩ := HKN.out x (List.mem_of_getElem? hx)
        obtain ⟨ba, off, rfl, c0⟩ := INS.at' (INS.below' HI.out hBr) hx
        have HWd := mword_any g _ ws ms A B C x wr (by omega) (hM3.below hBr)
        rw [ht] at HWd
        unfold wdV at HWd
        simp only [Option.getD_some, Option.isSome_some] at HWd
        have hstep := txJ_take ws l k x hx
        rw [ht, Option.getD_some, ← HACC.out] at hstep
        have hap : (acc ++ t).data.toList = acc.data.toList ++ t.data.toList := by simp [ByteArray.data_append]
        have HAC2 : Hid ((acc ++ t).data.toList = txJ ws (l.take (k + 1))) := hap.trans hstep.symm
        have htz : t.size ≤ 3000 := by
          have h1 := congrArg List.length HAC2.out
          have h2 := txJ_le ws l (k + 1)
          rw [HTX.out, sz_list] at h2
          rw [hap, List.length_append, sz_list, sz_list] at h1
          omega
        have bi : 0 ≤ (k : Int) ∧ (k : Int) < (n : Int) := by omega
        have HX : Hid (l[k]? = some x) := hx
        clear hstep hap ht hx
        go_wp2_with fail
        refine HWd.mono ?_
        rintro e w5 ⟨rfl, hb5⟩
        clear HWd
        have hBr5 := hBr.trans (hb5.mono hBr.size)
        obtain ⟨_, _, e0, c5⟩ := INS.at' (INS.below' HI.out hBr5) HX.out
        cases e0
        by_cases hk0 : k = 0
        · subst hk0
          have dk : decide ((0 : Int) < 0) = false := rfl
          clear c0 c5
          go_wp2_with fail
          exact ⟨⟨1, _, by omega, rfl, rfl, HAC2.out, hBr5⟩, by simp only [intOf]; omega⟩
        · have dk : decide ((0 : Int) < (k : Int)) = true := decide_eq_true (by omega)
          obtain ⟨m, hm⟩ : ∃ m, m = k - 1 := ⟨_, rfl⟩
          have hmi : (k : Int) - 1 = ((m : Nat) : Int) := by omega
          have bm : 0 ≤ (m : Int) ∧ (m : Int) < (n : Int) := by omega
          obtain ⟨y, hy⟩ : ∃ y, l[m]? = some y := ⟨_, List.getElem?_eq_getElem (by omega)⟩
          obtain ⟨_, _, e0, c6⟩ := INS.at' (INS.below' HI.out hBr5) hy
          cases e0
          have hmn : mergeM ms y x = none := by
            have h1 := HNO.out m
            unfold mpJ at h1
            rw [hy, show m + 1 = k by omega, HX.out] at h1
            exact h1
          have h64 := HKN.out.w64 (by omega)
          have HMm := fun d os => merge_any g _ ws ms A B C y x (grow (redrawn w5 d) os) (h64 y (List.mem_of_getElem? hy)) (h64 x (List.mem_of_getElem? HX.out)) ((hM3.below hBr5).below (below_regrown w5 d os))
          rw [hmn, show mrV none = .tuple #[.int .i64 0, .int .i64 0, .bool false] from rfl] at HMm
          have k5 := cell_regrown c5
          have k6 := cell_regrown c6
          have hss5 := hBr5.size
          clear hm hmn h64 hy hk0 c0 c5 c6
          go_upto_region 17 with fail
          refine wp_region_quiet_below (by kernel_rfl) (by kernel_rfl) ?_
          repeat (go_big_quiet_step ((go_at_call 24; exact Calls.regrown_of (HMm _ _))))
          refine wpQuiet_nil ?_
          intro W6 hw'
          have hb6 : Below w5.heap.size w5 W6 := by
            obtain ⟨⟨dq, osq⟩, rfl⟩ := hw'
            exact below_regrown _ _ _
          clear hw' HMm k5 k6
          go_wp2_with fail
          exact ⟨⟨k + 1, _, by omega, rfl, by simp, HAC2.out, hBr5.trans (hb6.mono hss5)⟩, by simp only [intOf]; omega⟩
      · obtain rfl : k = n := by omega
        have d : decide ((k : Int) < (k : Int)) = false := decide_eq_false (by omega)
        have heq : acc = s := by
          have h1 := HACC.out
          rw [HN.out, List.take_length, HTX.out] at h1
          cases acc; cases s
          simp only at h1
          congr 1
          exact Array.toList_inj.1 h1
        subst heq
        have h64 := HKN.out.w64 (by omega)
        have HJn := bjoin_any g _ ia ic l ws ms A B C wr (by rw [← HN.out]; omega) (by omega) (INS.below' HI.out hBr) h64 HMI'.out (hM3.below hBr)
        rw [← HN.out] at HJn
        have hss := hBr.size
        have hssB := hB4.size
        clear h64
        go_wp2_with fail
        refine HJn.mono ?_
        rintro e w5 ⟨-, hyes, hb5⟩
        obtain ⟨v, r, st', rfl, hv5, hj5⟩ := hyes HKN.out.all
        obtain ⟨-, rfl⟩ := (JR.done HNO.out).uniq hj5
        obtain ⟨a5, c5, rfl, hi5⟩ := hv5.ins
        rw [← HN.out]
        have hBr5 := hBr.trans (hb5.mono hss)
        have B5 := B3.trans (hBr5.mono B3.size)
        have HS := sameN_any a5 ia c5 ic l w5 (by rw [← HN.out]; omega) hi5 (INS.below' HI.out hBr5)
        rw [← HN.out] at HS
        have HKw := fun wx (h : Below w5.heap.size w5 wx) => known10_any wx (hG3.below (hBr5.trans (h.mono hBr5.size)))
        clear HJn hv5 hj5 hi5 hyes
        go_wp2_with fail
        refine HS.mono ?_
        rintro e w6 ⟨rfl, hb6⟩
        clear HS
        go_wp2_with fail
        refine (HKw w6 hb6).mono ?_
        rintro e w7 ⟨rfl, hb7⟩
        clear HKw
        go_wp2_with fail
        go_ret
        exact ⟨rfl, (B5.trans (hb6.mono B5.size)).trans (hb7.mono (by have := B5.size; have := hb6.size; omega))⟩
end Go.Proofs.YtjbdhakogbolkaaDoor
end
section
/- bpe in plain mathematics: cut where no step joined across. -/
namespace Go.Proofs.YtjbdhakogbolkaaDoor
set_option linter.unusedVariables false
theorem mpJ_left {ms : List Mg} {x y : List Int} {j : Nat} (h : j + 1 < x.length) : mpJ ms (x ++ y) j = mpJ ms x j := by
  unfold mpJ
  rw [List.getElem?_append_left (by omega), List.getElem?_append_left h]
theorem mpJ_right {ms : List Mg} {x y : List Int} {j : Nat} (h : x.length ≤ j) : mpJ ms (x ++ y) j = mpJ ms y (j - x.length) := by
  unfold mpJ
  rw [List.getElem?_append_right h, List.getElem?_append_right (by omega), show j + 1 - x.length = j - x.length + 1 by omega]
theorem repl_left {x y : List Int} {a : Nat} {i : Int} (h : a + 1 < x.length) : repl (x ++ y) a i = repl x a i ++ y := by
  unfold repl
  rw [List.set_append_left _ _ (by omega), List.eraseIdx_append_of_lt_length (by rw [List.length_set]; exact h)]
theorem repl_right {x y : List Int} {a : Nat} {i : Int} (h : x.length ≤ a) : repl (x ++ y) a i = x ++ repl y (a - x.length) i := by
  unfold repl
  rw [List.set_append_right _ _ h, List.eraseIdx_append_of_length_le (by omega), show a + 1 - x.length = a - x.length + 1 by omega]
theorem IsN.left {ms : List Mg} {x y : List Int} {k a : Nat} {i : Int} (h : IsN ms (x ++ y) k a i) (ha : a + 1 < x.length) : IsN ms x k a i :=
  ⟨by rw [← mpJ_left (y := y) ha]; exact h.1, fun j k' i' hj => h.2 j k' i' (by rw [mpJ_left (mpJ_lt hj)]; exact hj)⟩
theorem IsN.right {ms : List Mg} {x y : List Int} {k a : Nat} {i : Int} (h : IsN ms (x ++ y) k a i) (ha : x.length ≤ a) : IsN ms y k (a - x.length) i :=
  ⟨by rw [← mpJ_right (x := x) ha]; exact h.1, fun j k' i' hj => by
    have := h.2 (x.length + j) k' i' (by rw [mpJ_right (by omega), show x.length + j - x.length = j by omega]; exact hj)
    omega⟩
theorem NoN.left {ms : List Mg} {x y : List Int} (h : NoN ms (x ++ y)) : NoN ms x := fun j => by
  cases hj : mpJ ms x j with
  | none => rfl
  | some z => rw [← hj, ← mpJ_left (y := y) (mpJ_lt hj)]; exact h j
theorem NoN.right {ms : List Mg} {x y : List Int} (h : NoN ms (x ++ y)) : NoN ms y := fun j => by
  have := h (x.length + j)
  rw [mpJ_right (by omega), show x.length + j - x.length = j by omega] at this
  exact this
/-- How many bytes the first k have. -/
def bdJ (ws : List ByteArray) (l : List Int) (k : Nat) : Nat := (txJ ws (l.take k)).length
/-- A place between two tokens' bytes. -/
def IsB (ws : List ByteArray) (l : List Int) (n : Nat) : Prop := ∃ k, k ≤ l.length ∧ bdJ ws l k = n
theorem txJ_cons (ws : List ByteArray) (x : Int) (l : List Int) : txJ ws (x :: l) = ((wordM ws x).getD ⟨#[]⟩).data.toList ++ txJ ws l := by unfold txJ; rw [List.flatMap_cons]
theorem take_parts (p q : List Int) (i : Int) (k : Nat) : (k ≤ p.length ∧ (p ++ i :: q).take k = p.take k) ∨ ∃ j, k = p.length + 1 + j ∧ (p ++ i :: q).take k = p ++ i :: q.take j := by
  by_cases h : k ≤ p.length
  · exact .inl ⟨h, List.take_append_of_le_length h⟩
  · refine .inr ⟨k - p.length - 1, by omega, ?_⟩
    rw [List.take_append, List.take_of_length_le (by omega), show k - p.length = (k - p.length - 1) + 1 by omega, List.take_succ_cons]
    simp
theorem take_parts2 (p q : List Int) (x y : Int) (j : Nat) : (p ++ x :: y :: q).take (p.length + 2 + j) = p ++ x :: y :: q.take j := by
  rw [List.take_append, List.take_of_length_le (by omega), show p.length + 2 + j - p.length = (j + 1) + 1 by omega, List.take_succ_cons, List.take_succ_cons]
section
variable {ws : List ByteArray} {ms : List Mg} {A B C : List Sp} (hk : MOk ws ms A B C)
include hk
theorem word_join {l r : Int} {k : Nat} {i : Int} (h : mergeM ms l r = some (k, i)) : ((wordM ws i).getD ⟨#[]⟩).data.toList = ((wordM ws l).getD ⟨#[]⟩).data.toList ++ ((wordM ws r).getD ⟨#[]⟩).data.toList := by
  rw [merge_word hk h]
  simp [joinM, ByteArray.data_append]
theorem step_bd {l : List Int} {k a : Nat} {i : Int} (h : mpJ ms l a = some (k, i)) {n : Nat} (hb : IsB ws (repl l a i) n) : IsB ws l n := by
  obtain ⟨x, y, hx, hy, hm⟩ := isN_parts h
  obtain ⟨h1, h2⟩ := repl_parts (i := i) hx hy
  have hal := (List.getElem?_eq_some_iff.1 hy).1
  obtain ⟨p, hp⟩ : ∃ p, p = l.take a := ⟨_, rfl⟩
  obtain ⟨q, hq⟩ : ∃ q, q = l.drop (a + 2) := ⟨_, rfl⟩
  rw [← hp, ← hq] at h1 h2
  have hpl : p.length = a := by rw [hp, List.length_take]; omega
  obtain ⟨m, hm1, hm2⟩ := hb
  rw [h2] at hm1 hm2
  rw [h1]
  unfold bdJ at hm2
  rcases take_parts p q i m with ⟨h3, h4⟩ | ⟨j, h3, h4⟩
  · rw [h4] at hm2
    exact ⟨m, by simp; omega, by unfold bdJ; rw [List.take_append_of_le_length h3]; exact hm2⟩
  · rw [h4, txJ_append, txJ_cons, word_join hk hm] at hm2
    refine ⟨p.length + 2 + j, ?_, ?_⟩
    · simp at hm1 ⊢
      omega
    · unfold bdJ
      rw [take_parts2, txJ_append, txJ_cons, txJ_cons, ← hm2]
      simp
theorem run_bd {l : List Int} {st : List (Nat × Nat)} {r : List Int} (h : JR ms l st r) {n : Nat} (hb : IsB ws r n) : IsB ws l n := by
  induction h with
  | done _ => exact hb
  | step h _ ih => exact step_bd hk h.1 (ih hb)
omit hk in
theorem word_pos (hw : ∀ x w, wordM ws x = some w → 0 < w.size) {l : List Int} (hl : KnJ ws l) {a b : Nat} (hab : a < b) (hb : b ≤ l.length) : bdJ ws l a < bdJ ws l b := by
  have h1 : bdJ ws l a < bdJ ws l (a + 1) := by
    obtain ⟨x, hx⟩ : ∃ x, l[a]? = some x := ⟨_, List.getElem?_eq_getElem (by omega)⟩
    obtain ⟨w, hw1⟩ := hl x (List.mem_of_getElem? hx)
    have h2 := hw x w hw1
    unfold bdJ
    rw [List.take_add_one, hx, txJ_append, List.length_append]
    have h3 : (txJ ws (some x).toList).length = w.size := by
      rw [Option.toList_some, txJ_cons, hw1, List.length_append]
      show w.data.toList.length + (txJ ws []).length = w.size
      rw [Array.length_toList]
      rfl
    omega
  have h2 : bdJ ws l (a + 1) ≤ bdJ ws l b := by
    unfold bdJ
    have : l.take b = l.take (a + 1) ++ (l.take b).drop (a + 1) := by
      conv => lhs; rw [← List.take_append_drop (a + 1) (l.take b)]
      rw [List.take_take, Nat.min_eq_left (by omega)]
    rw [this, txJ_append, List.length_append]
    omega
  omega
theorem cut_runs (hw : ∀ x w, wordM ws x = some w → 0 < w.size) {l : List Int} {st : List (Nat × Nat)} {r : List Int} (h : JR ms l st r) : ∀ (x y : List Int), l = x ++ y → KnJ ws l → ∀ k, k ≤ r.length → bdJ ws r k = (txJ ws x).length → ∃ st1 st2, JR ms x st1 (r.take k) ∧ JR ms y st2 (r.drop k) := by
  induction h with
  | done hn =>
    rintro x y rfl hkn k hkl hb
    have hx : bdJ ws (x ++ y) x.length = (txJ ws x).length := by unfold bdJ; rw [List.take_left]
    have hke : k = x.length := by
      rcases Nat.lt_trichotomy k x.length with h | h | h
      · have := word_pos hw hkn h (by simp)
        omega
      · exact h
      · have := word_pos hw hkn h hkl
        omega
    subst hke
    rw [List.take_left, List.drop_left]
    exact ⟨[], [], JR.done hn.left, JR.done hn.right⟩
  | step hs hg ih =>
    rename_i l0 k0 a i st0 r0
    rintro x y rfl hkn k hkl hb
    have hlt := mpJ_lt hs.1
    obtain ⟨hk2, htx⟩ := repl_words hk hs.1 hkn
    by_cases h1 : a + 1 < x.length
    · rw [repl_left h1] at ih hk2
      have hs1 := hs.left h1
      have hkx : KnJ ws x := fun z hz => hkn z (List.mem_append_left _ hz)
      have ht1 := (repl_words hk hs1.1 hkx).2
      obtain ⟨s1, s2, h2, h3⟩ := ih _ _ rfl hk2 k hkl (by rw [ht1]; exact hb)
      exact ⟨_, _, JR.step hs1 h2, h3⟩
    · by_cases h2 : x.length ≤ a
      · rw [repl_right h2] at ih hk2
        have hs1 := hs.right h2
        obtain ⟨s1, s2, h3, h4⟩ := ih _ _ rfl hk2 k hkl hb
        exact ⟨_, _, h3, JR.step hs1 h4⟩
      · exfalso
        have hae : x.length = a + 1 := by omega
        obtain ⟨k', hk', hb'⟩ := run_bd hk hg ⟨k, hkl, hb⟩
        obtain ⟨u, v, hu, hv, hm⟩ := isN_parts hs.1
        obtain ⟨e1, e2⟩ := repl_parts (i := i) hu hv
        obtain ⟨p, hp⟩ : ∃ p, p = (x ++ y).take a := ⟨_, rfl⟩
        obtain ⟨q, hq⟩ : ∃ q, q = (x ++ y).drop (a + 2) := ⟨_, rfl⟩
        rw [← hp, ← hq] at e1 e2
        have hpl : p.length = a := by rw [hp, List.length_take]; omega
        have hxe : x = p ++ [u] := by
          have h5 : (x ++ y).take (a + 1) = p ++ [u] := by
            rw [e1, ← hpl, List.take_append, List.take_of_length_le (by omega)]
            simp
          rw [← hae, List.take_left] at h5
          exact h5
        obtain ⟨wu, hwu⟩ := hkn u (List.mem_of_getElem? hu)
        obtain ⟨wv, hwv⟩ := hkn v (List.mem_of_getElem? hv)
        have pu := hw u wu hwu
        have pv := hw v wv hwv
        have lu : ((wordM ws u).getD ⟨#[]⟩).data.toList.length = wu.size := by rw [hwu]; exact Array.length_toList
        have lv : ((wordM ws v).getD ⟨#[]⟩).data.toList.length = wv.size := by rw [hwv]; exact Array.length_toList
        have ltx : (txJ ws x).length = (txJ ws p).length + wu.size := by
          rw [hxe, txJ_append, txJ_cons, List.length_append, List.length_append, lu]
          simp [txJ]
        rw [e2] at hb'
        unfold bdJ at hb'
        rcases take_parts p q i k' with ⟨h3, h4⟩ | ⟨j, h3, h4⟩
        · rw [h4] at hb'
          have h5 : (txJ ws (p.take k')).length ≤ (txJ ws p).length := by
            conv => rhs; rw [← List.take_append_drop k' p, txJ_append, List.length_append]
            omega
          omega
        · rw [h4, txJ_append, txJ_cons, word_join hk hm, List.length_append, List.length_append, List.length_append, lu, lv] at hb'
          omega
end
end Go.Proofs.YtjbdhakogbolkaaDoor
end
section
/- BpeCuts: its walk. -/
namespace Go.Proofs.YtjbdhakogbolkaaDoor
open Go.RowKit Go.Joins Go.Sort
set_option linter.unusedVariables false
set_option linter.unusedSimpArgs false
set_option maxRecDepth 100000
theorem MOk.pos {ws : List ByteArray} {ms : List Mg} {A B C : List Sp} (h : MOk ws ms A B C) : ∀ x w, wordM ws x = some w → 0 < w.size := by
  intro x w hw
  unfold wordM at hw
  by_cases h0 : 0 ≤ x ∧ x < 256
  · rw [if_pos h0] at hw
    cases hw
    exact Nat.one_pos
  · rw [if_neg h0] at hw
    by_cases h1 : 256 ≤ x
    · rw [if_pos h1] at hw
      have := (h.words.size hw).1
      omega
    · rw [if_neg h1] at hw; cases hw
theorem byL_cut (s : ByteArray) (n : Nat) (h : n ≤ s.size) : byL s = byL (s.extract 0 n) ++ byL (s.extract n s.size) := by
  unfold byL
  rw [← List.map_append]
  congr 1
  have key : ∀ a b, (s.extract a b).data.toList = (s.data.toList.drop a).take (b - a) := by intro a b; simp [ByteArray.data_extract]
  have h1 : (s.extract 0 n).data.toList = s.data.toList.take n := by rw [key]; simp
  have h2 : (s.extract n s.size).data.toList = s.data.toList.drop n := by
    rw [key, List.take_of_length_le]
    rw [List.length_drop, Array.length_toList]
    exact Nat.le_refl _
  rw [h1, h2, List.take_append_drop]
/-- All of a slice is laid behind a row of one's own. -/
theorem run_catN (W : World) (base : Nat) (v : Value) (L : List Int) (a : Option Addr) (c : Nat) (M : List Int) (hown : RowN W base v L) (hi : CH.INS W a M) (hv : v.ownBlock ≠ none) (hb : base ≤ W.heap.size) (hl : L.length + M.length ≤ 1099511627776) :
    ∃ v' w', (Builtin.append_ #[34, 34] 34 #[v, .slice a M.length c]).run Tryd.prog W = .ok v' w' ∧ RowN w' base v' (L ++ M) ∧ Below base W w' ∧ v'.ownBlock ≠ none := by
  obtain ⟨i0, hi0, hz0, hz1, hz2⟩ := HQ.info_parts infoN
  cases a with
  | none =>
    have hM : M = [] := by
      rcases hi with h | ⟨b, off, h, _⟩
      · exact h
      · cases h
    subst hM
    rcases hown.2 with ⟨rfl, _⟩ | ⟨b, cap, cur, rfl, hbb, hh, hn, hm, hcs, htk⟩
    · exact absurd rfl hv
    · refine ⟨.slice (some ⟨b, 0, none⟩) L.length cap, W, ?_, by rw [List.append_nil]; exact hown, Below.refl _ _, hv⟩
      have hcap : ¬ cap < L.length := by omega
      simp [Builtin.append_, run_underlying Tryd.underlying34, sizeOf, typeInfo, hi0, Builtin.lenOf, Builtin.firstCells, loadCells, loadCellsFrom, hz1, storeCells]
      intro h
      exact absurd h hcap
  | some x =>
    have hcs : ∀ j u, (M.flatMap encN)[j]? = some u → W.cell? (x.add j) = some u := by
      intro j u hu
      rw [encN_flat, List.getElem?_map] at hu
      cases hl : M[j]? with
      | none => rw [hl] at hu; cases hu
      | some y =>
        rw [hl] at hu
        simp only [Option.map_some, Option.some.injEq] at hu
        rcases hi with h | ⟨b, off, h, hc⟩
        · rw [h] at hl; simp at hl
        · cases h
          have := hc j y hl
          rw [cell_add, ← hu]
          exact this
    obtain ⟨v', w', h1, h2, h3, h4⟩ := run_append_own (P := Tryd.prog) W base 34 34 3 i0 _ 1 8 Tryd.underlying34 hi0 hz0 hz1 hz2 rfl (by decide) v L.length (L.flatMap encN) hown x M.length c (M.flatMap encN) (by rw [encN_flat]; simp) hcs (fun v hv => by
      rw [encN_flat] at hv
      obtain ⟨y, _, rfl⟩ := List.mem_map.1 hv
      rfl) (by unfold maxLen; omega) (by omega) hb
    refine ⟨v', w', h1, ?_, (Below.refl _ W).grown h3 hb (fun k hk => (World.ownsRow.lt hown k hk).1), ?_⟩
    · unfold RowN
      rw [List.length_append, List.flatMap_append]
      exact h2
    · intro e
      rcases h2.2 with ⟨e2, _⟩ | ⟨b, cap, cur, e2, _⟩
      · have := (h4.1 e2).1
        rw [this] at hv
        exact hv rfl
      · rw [e2] at e; cases e
theorem wpList_append_runG {P : Program} {w : World} {ops : Array Oper} {rest : List Oper} {o : Oper} {a : Act} {Q : Exit → Act → World → Prop} (s x : Operand) (t tx : TypeId) (hw : Region.wanted o (yielded ops a.tmps) = true)
    (ho : o.op = .call { callee := .builtin .append, args := #[s, x], argTypes := #[t, tx] }) (v y : Value) (hs : a.eval s = v) (hx : a.eval x = y) (v' : Value) (w' : World)
    (hr : (Builtin.append_ #[t, tx] o.type #[v, y]).run P w = .ok v' w') (h : wpList P ops Q rest (a.put o.dst v') w') : wpList P ops Q (o :: rest) a w := by
  refine wpList_step fun K hK => ?_
  simp only [hw, if_true]
  unfold Oper.wp execOp
  simp only [ho, resolve, invoke, builtin, Sem.run_bind, Sem.run_pure, Result.andThen_ok, List.map_toArray, List.map_cons, List.map_nil, hs, hx, hr]
  exact hK _ _ h
theorem bdJ_step (ws : List ByteArray) (l : List Int) (k : Nat) (x : Int) (t : ByteArray) (hx : l[k]? = some x) (ht : wordM ws x = some t) : bdJ ws l (k + 1) = bdJ ws l k + t.size := by
  unfold bdJ
  rw [txJ_take ws l k x hx, List.length_append, ht]
  show _ + t.data.toList.length = _
  rw [sz_list]
set_option maxHeartbeats 4000000 in
theorem cuts_walk (aw am a b c : Option Addr) (cw cm ca cb cc : Nat) (ws : List ByteArray) (ms : List Mg) (A B C : List Sp) (s0 : ByteArray) (at0 : Int) (w : World) (hwf : MWf ms) (hn : ws.length ≤ 8796093022208 ∧ ms.length ≤ 5864062014805 ∧ A.length ≤ 17592186044416 ∧ B.length ≤ 17592186044416 ∧ C.length ≤ 17592186044416) (hW : WSP w aw ws) (hM : MSP w am ms) (hA : Lst w a ca A) (hB : Lst w b cb B) (hC : Lst w c cc C) (hG : GL w) :
    Calls Tryd.prog 8 #[.agg #[.slice aw ws.length cw, .slice am ms.length cm, .slice a A.length ca, .slice b B.length cb, .slice c C.length cc], .string s0, .int .i64 at0] w fun e w' => e = .returned (.bool true) ∧ Below w.heap.size w w' := by
  have hD := DBox.new w (.slice aw ws.length cw) (.slice am ms.length cm) (.slice a A.length ca) (.slice b B.length cb) (.slice c C.length cc)
  have hb0 := box_below w (.cells #[.slice aw ws.length cw, .slice am ms.length cm, .slice a A.length ca, .slice b B.length cb, .slice c C.length cc] 30)
  have HW : Hid (WSP w aw ws) := hW
  have HM : Hid (MSP w am ms) := hM
  have HA : Hid (Lst w a ca A) := hA
  have HB : Hid (Lst w b cb B) := hB
  have HC : Hid (Lst w c cc C) := hC
  have HG : Hid (GL w) := hG
  have HMI : Hid (∀ l r k i, mergeM ms l r = some (k, i) → W64 i) := mergeM_W64 hwf
  clear hW hM hA hB hC hG
  have x0 := hD.c0
  have x1 := hD.c1
  have x2 := hD.c2
  have x3 := hD.c3
  have x4 := hD.c4
  go_enter Tryd.func8, Tryd.ntmps8
  go_wp2_with fail
  obtain ⟨Y, hY⟩ : ∃ Y, Y = w.alloc (.cells #[.slice aw ws.length cw, .slice am ms.length cm, .slice a A.length ca, .slice b B.length cb, .slice c C.length cc] 30) := ⟨_, rfl⟩
  rw [← hY] at hb0 ⊢
  clear hY x0 x1 x2 x3 x4 hD
  refine (keepOf_any aw am a b c cw cm ca cb cc ws ms A B C Y hwf (by omega) (HW.out.below hb0) (HM.out.below hb0) (HA.out.below hb0) (HB.out.below hb0) (HC.out.below hb0) (HG.out.below hb0)).mono ?_
  rintro e w1 ⟨p, rfl, hp1, hp2, hb1⟩
  have B1 := hb0.trans (hb1.mono hb0.size)
  have hG1 := HG.out.below B1
  clear HW HM HA HB HC HG
  cases hU : upB ws ms A B C with
  | false =>
    obtain rfl := hp2 hU
    clear hp1 hp2 hU hb1 hb0 HMI
    go_wp2_with fail
    refine (known10_any w1 hG1).mono ?_
    rintro e w9 ⟨rfl, hb9⟩
    go_wp2_with fail
    go_ret
    exact ⟨rfl, B1.trans (hb9.mono B1.size)⟩
  | true =>
    obtain ⟨g, rfl, hMd⟩ := hp1 hU
    have HK : Hid (MOk ws ms A B C) := upB_ok hU
    clear hp1 hp2 hU hb1 hb0
    obtain ⟨s, hs⟩ : ∃ s, s = fewF s0 200 := ⟨_, rfl⟩
    have hsz : s.size ≤ 200 := by rw [hs]; exact fewF_size _ _
    have HF := few10_any s0 200 w1
    rw [← hs] at HF
    rw [show ((200 : Nat) : Int) = 200 from rfl] at HF
    clear hs
    have HMe := bmerge_any g _ s ws ms A B C w1 (by omega) HMI.out hMd
    go_wp2_with fail
    refine HF.mono ?_
    rintro e w2 ⟨rfl, he⟩
    obtain rfl := he.symm
    clear HF
    go_wp2_with fail
    refine HMe.mono ?_
    rintro e w3 ⟨v, l, st, rfl, hv3, hj3, hb3, hnb⟩
    clear HMe
    have B3 := B1.trans (hb3.mono B1.size)
    obtain ⟨ia, ic, rfl, hi3⟩ := hv3.ins
    obtain ⟨hkn, htx⟩ := hj3.words HK.out (byL_known ws s)
    rw [byL_text] at htx
    have hll : l.length ≤ 200 := by
      have := hj3.len
      rw [byL_length] at this
      omega
    have hM3 := hMd.below hb3
    have hG3 := hG1.below hb3
    obtain ⟨n, hnn⟩ : ∃ n, n = l.length := ⟨_, rfl⟩
    have HN : Hid (n = l.length) := hnn
    rw [← hnn] at hll ⊢
    have HTX : Hid (txJ ws l = s.data.toList) := htx
    have HKN : Hid (KnJ ws l) := hkn
    have HJ : Hid (JR ms (byL s) st l) := hj3
    have HI : Hid (CH.INS w3 ia l) := hi3
    clear hnn hv3 hj3 hi3 hkn htx hMd hG1 hb3 hnb
    by_cases hn0 : n = 0
    · subst hn0
      go_wp2_with fail
      refine (known10_any w3 hG3).mono ?_
      rintro e w9 ⟨rfl, hb9⟩
      go_wp2_with fail
      go_ret
      exact ⟨rfl, B3.trans (hb9.mono B3.size)⟩
    have dn : ((n : Int) == 0) = false := by simp; omega
    obtain ⟨m, hm⟩ : ∃ m, m = n - 1 := ⟨_, rfl⟩
    have hmi : (n : Int) - 1 = ((m : Nat) : Int) := by omega
    have hmn : m < n := by omega
    have HWi := CH.within_any at0 0 m (Nat.zero_le _) (by omega) w3
    rw [show ((0 : Nat) : Int) = 0 from rfl] at HWi
    clear hm hn0
    go_wp2_with fail
    refine HWi.mono ?_
    rintro e w4 ⟨at1, -, hat, rfl, he⟩
    obtain rfl := he.symm
    clear HWi
    go_wp2_with fail
    go_loopw [12, 13] (fun v12 v13 wr => ∃ k : Nat, k ≤ at1 ∧ v12 = .int .i64 (bdJ ws l k : Nat) ∧ v13 = .int .i64 (k : Nat) ∧ Below w3.heap.size w3 wr) (fun _ v13 _ => at1 - (intOf v13).toNat)
    case atStart => exact ⟨0, Nat.zero_le _, rfl, rfl, Below.refl _ _⟩
    case round =>
      obtain ⟨k, hk, rfl, rfl, hBr⟩ := hrel
      have hbk : bdJ ws l k ≤ 200 := by
        have h2 := txJ_le ws l k
        rw [HTX.out, sz_list] at h2
        unfold bdJ
        omega
      by_cases hlt : k < at1
      · have d : decide ((k : Int) < (at1 : Int)) = true := decide_eq_true (by omega)
        have hkl : k < l.length := by rw [← HN.out]; omega
        obtain ⟨x, hx⟩ : ∃ x, l[k]? = some x := ⟨_, List.getElem?_eq_getElem hkl⟩
        obtain ⟨t, ht⟩ := HKN.out x (List.mem_of_getElem? hx)
        obtain ⟨ba, off, rfl, c0⟩ := INS.at' (INS.below' HI.out hBr) hx
        have HWd := mword_any g _ ws ms A B C x wr (by omega) (hM3.below hBr)
        rw [ht] at HWd
        unfold wdV at HWd
        simp only [Option.getD_some, Option.isSome_some] at HWd
        have hstep := bdJ_step ws l k x t hx ht
        have htz : t.size ≤ 200 := by
          have h2 := txJ_le ws l (k + 1)
          rw [HTX.out, sz_list] at h2
          have h3 : bdJ ws l (k + 1) = (txJ ws (l.take (k + 1))).length := rfl
          omega
        have bi : 0 ≤ (k : Int) ∧ (k : Int) < (n : Int) := by omega
        obtain ⟨q, hq⟩ : ∃ q, q = bdJ ws l k := ⟨_, rfl⟩
        rw [← hq] at hstep hbk ⊢
        have HS1 : Hid (bdJ ws l (k + 1) = q + t.size) := hstep
        clear hstep ht hx hq
        go_wp2_with fail
        refine HWd.mono ?_
        rintro e w5 ⟨rfl, hb5⟩
        clear HWd c0
        go_wp2_with fail
        exact ⟨⟨k + 1, by omega, by rw [HS1.out]; simp, by simp, hBr.trans (hb5.mono hBr.size)⟩, by simp only [intOf]; omega⟩
      · obtain rfl : k = at1 := by omega
        have d : decide ((k : Int) < (k : Int)) = false := decide_eq_false (by omega)
        have hbs : bdJ ws l k ≤ s.size := by
          have h2 := txJ_le ws l k
          rw [HTX.out, sz_list] at h2
          unfold bdJ
          omega
        obtain ⟨q, hq⟩ : ∃ q, q = bdJ ws l k := ⟨_, rfl⟩
        rw [← hq] at hbs hbk ⊢
        have d2 : decide ((s.size : Int) < (q : Int)) = false := decide_eq_false (by omega)
        have d3 : 0 ≤ (q : Int) ∧ (q : Int) ≤ (s.size : Int) := by omega
        have hz1 : (s.extract 0 q).size ≤ 1048576 := by rw [ByteArray.size_extract]; omega
        have hz2 : (s.extract q s.size).size ≤ 1048576 := by rw [ByteArray.size_extract]; omega
        have hcut : ∃ st1 st2, JR ms (byL (s.extract 0 q)) st1 (l.take k) ∧ JR ms (byL (s.extract q s.size)) st2 (l.drop k) := by
          refine cut_runs HK.out HK.out.pos HJ.out _ _ (byL_cut s q hbs) (byL_known ws s) k (by rw [← HN.out]; omega) ?_
          rw [← hq, byL_text, sz_list, ByteArray.size_extract]
          omega
        have HCUT : Hid (∃ st1 st2, JR ms (byL (s.extract 0 q)) st1 (l.take k) ∧ JR ms (byL (s.extract q s.size)) st2 (l.drop k)) := hcut
        have HM1 := bmerge_any g _ (s.extract 0 q) ws ms A B C wr hz1 HMI.out (hM3.below hBr)
        have hss := hBr.size
        clear hcut hq hz1
        go_wp2_with fail
        refine HM1.mono ?_
        rintro e w5 ⟨v5, l5, st5, rfl, hv5, hj5, hb5, hnb5⟩
        clear HM1
        have hBr5 := hBr.trans (hb5.mono hss)
        have HM2 := bmerge_any g _ (s.extract q s.size) ws ms A B C w5 hz2 HMI.out (hM3.below hBr5)
        obtain ⟨a5, c5, rfl, hi5⟩ := hv5.ins
        have hss5 := hBr5.size
        clear hb5 hv5 hnb5 hz2
        go_wp2_with fail
        refine HM2.mono ?_
        rintro e w6 ⟨v6, l6, st6, rfl, hv6, hj6, hb6, hnb6⟩
        clear HM2
        obtain ⟨st1, st2, g1, g2⟩ := HCUT.out
        obtain ⟨-, rfl⟩ := hj5.uniq g1
        obtain ⟨-, rfl⟩ := hj6.uniq g2
        obtain ⟨a6, c6, rfl, hi6⟩ := hv6.ins
        have hBr6 := hBr5.trans (hb6.mono hss5)
        have hi56 := INS.below' hi5 hb6
        obtain ⟨w7, hw7⟩ : ∃ w7, w7 = w6.alloc (.cells #[] 3) := ⟨_, rfl⟩
        have hb7 : Below w6.heap.size w6 w7 := by rw [hw7]; exact (Below.refl _ w6).alloc (Nat.le_refl _) _
        have hN7 : RowN w7 w6.heap.size (.slice (some ⟨w6.heap.size, 0, none⟩) 0 0) [] :=
          ⟨rfl, .inr ⟨w6.heap.size, 0, #[], rfl, Nat.le_refl _, by rw [hw7]; exact heap_alloc_new w6 _, Nat.le_refl _, by simp [maxLen], rfl, rfl⟩⟩
        have hsz7 := hb7.size
        have hlk : (l.take k).length ≤ 200 := by rw [List.length_take, ← HN.out]; omega
        have hld : (l.drop k).length ≤ 200 := by rw [List.length_drop, ← HN.out]; omega
        obtain ⟨v8, w8, hr8, hN8, hb8, hnb8⟩ := run_catN w7 w6.heap.size _ [] a5 c5 (l.take k) hN7 (INS.below' hi56 hb7) (by simp [Value.ownBlock]) hsz7 (by rw [List.length_nil]; omega)
        have hb78 := hb7.trans hb8
        obtain ⟨v9, w9, hr9, hN9, hb9, hnb9⟩ := run_catN w8 w6.heap.size v8 _ a6 c6 (l.drop k) hN8 (INS.below' hi6 hb78) hnb8 hb78.size (by rw [List.nil_append]; omega)
        rw [List.nil_append, List.take_append_drop] at hN9
        obtain ⟨a9, c9, rfl, hi9⟩ := hN9.ins
        have hb69 := hb78.trans hb9
        have hBr9 := hBr6.trans (hb69.mono hBr6.size)
        have HS := sameN_any a9 ia c9 ic l w9 (by rw [← HN.out]; omega) hi9 (INS.below' HI.out hBr9)
        have HKw := fun wx (h : Below w9.heap.size w9 wx) => known10_any wx (hG3.below (hBr9.trans (h.mono hBr9.size)))
        have B9 := B3.trans (hBr9.mono B3.size)
        rw [hw7] at hr8
        rw [← HN.out] at HS hr9
        have HR8 : Hid ((Builtin.append_ #[34, 34] 34 #[.slice (some ⟨w6.heap.size, 0, none⟩) 0 0, .slice a5 (l.take k).length c5]).run Tryd.prog (w6.alloc (.cells #[] 3)) = .ok v8 w8) := hr8
        clear hr8 hw7 hN7 hN8 hN9 hi9 hi5 hi6 hi56 hj5 hj6 g1 g2 hv6 hb6 hb7 hb8 hb78 hb9 hb69 hnb6 hnb8 hnb9 HCUT hsz7
        obtain ⟨n5, hn5⟩ : ∃ n5, n5 = (l.take k).length := ⟨_, rfl⟩
        obtain ⟨n6, hn6⟩ : ∃ n6, n6 = (l.drop k).length := ⟨_, rfl⟩
        have hr8 := HR8.out
        rw [← hn5] at hr8 ⊢
        rw [← hn6] at hr9 ⊢
        clear hn5 hn6 HR8 hlk hld
        go_wp2_with (at_builtin; first | (refine wpList_append_runG (.tmp 102) (.tmp 103) 34 34 rfl rfl _ _ rfl rfl _ w8 hr8 ?_; clear hr8) | (refine wpList_append_runG (.tmp 104) (.tmp 105) 34 34 rfl rfl _ _ rfl rfl _ w9 hr9 ?_; clear hr9))
        refine HS.mono ?_
        rintro e w10 ⟨rfl, hb10⟩
        clear HS
        go_wp2_with fail
        refine (HKw w10 hb10).mono ?_
        rintro e w11 ⟨rfl, hb11⟩
        clear HKw
        go_wp2_with fail
        go_ret
        exact ⟨rfl, (B9.trans (hb10.mono B9.size)).trans (hb11.mono (by have := B9.size; have := hb10.size; omega))⟩
end Go.Proofs.YtjbdhakogbolkaaDoor
end
