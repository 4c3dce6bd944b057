import Derived.Test.YtjbdhakogbolkaaDoorJ17
import Derived.Test.YtjbdhakogbolkaaDoorJ9
import Derived.Test.YtjbdhakogbolkaaDoorJ0
import Derived.ProofKit
import Derived.LaidMore
import Derived.OpenShut
import Derived.Stop.Joined
import Derived.Deep.SlicePairs
import Derived.SizedLaws
import Derived.Test.YtjbdhakogbolkaaDoorJ3
import Derived.Lib.SmallJoins
import Derived.Deep.Strs
section
/- bpe.Merge, bpe.Joined; tesserabook.Same of ints; the law's few: their contracts. -/
namespace Go.Proofs.YtjbdhakogbolkaaDoor
open Go.RowKit Go.Joins Go.Sort
set_option linter.unusedVariables false
set_option linter.unusedSimpArgs false
set_option maxRecDepth 100000
theorem mergeM_W64 {ms : List Mg} (h : MWf ms) : ∀ l r k i, mergeM ms l r = some (k, i) → W64 i := by
  intro l r k i hm
  unfold mergeM at hm
  cases hr : rankM ms l r with
  | none => rw [hr] at hm; cases hm
  | some k' =>
    rw [hr] at hm
    simp only [Option.bind_some] at hm
    cases hx : ms[k']? with
    | none => rw [hx] at hm; cases hm
    | some x =>
      rw [hx] at hm
      simp only [Option.map_some, Option.some.injEq, Prod.mk.injEq] at hm
      obtain ⟨_, rfl⟩ := hm
      exact (h k' x hx).2.2
/-- A text's bytes, as a list of ids. -/
def byL (s : ByteArray) : List Int := s.data.toList.map fun c => (c.toNat : Int)
theorem byL_length (s : ByteArray) : (byL s).length = s.size := by unfold byL; rw [List.length_map, Array.length_toList]; rfl
theorem byJ_getI (s : ByteArray) : byJ s = getI (byL s) := by
  funext i
  unfold byJ getI byL
  rw [List.getElem?_map, Array.getElem?_toList]
theorem vw_by (s : ByteArray) : vwJ (CH.inn0 s.size) s.size (byJ s) = byL s := by
  have := vw_getI (byL s)
  rw [byL_length, ← byJ_getI] at this
  exact this
theorem RowN.ins {w : World} {base : Nat} {v : Value} {l : List Int} (h : RowN w base v l) : ∃ a c, v = .slice a l.length c ∧ CH.INS w a l := by
  obtain ⟨ia, ic, ib, rfl, h1⟩ := h.ids
  refine ⟨ia, ic, rfl, ?_⟩
  rcases h1 with h1 | ⟨rfl, h2, _⟩
  · exact .inl (List.length_eq_zero_iff.1 h1)
  · refine .inr ⟨ib, 0, rfl, fun i x hx => ?_⟩
    have hi := (List.getElem?_eq_some_iff.1 hx).1
    rw [Nat.zero_add, h2.at' hi]
    unfold getI
    rw [hx]
    rfl
theorem INS.below' {w w' : World} {a : Option Addr} {l : List Int} (h : CH.INS w a l) (hb : Below w.heap.size w w') : CH.INS w' a l := by
  rcases h with h | ⟨b, off, rfl, hc⟩
  · exact .inl h
  · exact .inr ⟨b, off, rfl, fun i x hx => (hb.cell (World.block_lt_of_cell? w _ (hc i x hx))).trans (hc i x hx)⟩
theorem INS.at' {w : World} {a : Option Addr} {l : List Int} (h : CH.INS w a l) {i : Nat} {r : Int} (hr : l[i]? = some r) : ∃ b off, a = some ⟨b, off, none⟩ ∧ w.cell? ⟨b, off + i, none⟩ = some (.int .i64 r) := by
  rcases h with h | ⟨b, off, rfl, hc⟩
  · rw [h] at hr; simp at hr
  · exact ⟨b, off, rfl, hc i r hr⟩
set_option maxHeartbeats 800000 in
theorem sameN_any (a b : Option Addr) (ca cb : Nat) (l : List Int) (w : World) (hlen : l.length ≤ 9223372036854775807) (ha : CH.INS w a l) (hb : CH.INS w b l) :
    Calls Tryd.prog 13 #[.slice a l.length ca, .slice b l.length cb] w fun e w' => e = .returned (.bool true) ∧ Below w.heap.size w w' := by
  obtain ⟨n, hn⟩ : ∃ n, n = l.length := ⟨_, rfl⟩
  have HN : Hid (n = l.length) := hn
  rw [← hn] at hlen ⊢
  clear hn
  have d0 : (((n : Int)) != (n : Int)) = false := by simp
  go_enter Tryd.func13, Tryd.ntmps13
  go_wp2_with fail
  go_loopw [5] (fun i wr => ∃ k : Nat, k ≤ n ∧ i = .int .i64 k ∧ Below w.heap.size w wr) (fun i _ => n - (intOf i).toNat)
  case atStart => exact ⟨0, Nat.zero_le _, rfl, Below.refl _ _⟩
  case round =>
    obtain ⟨k, hk, rfl, hbr⟩ := hrel
    by_cases hlt : k < n
    · have hkl : k < l.length := by rw [← HN.out]; exact hlt
      obtain ⟨x, hx⟩ : ∃ x, l[k]? = some x := ⟨l[k], List.getElem?_eq_getElem hkl⟩
      obtain ⟨ba, oa, rfl, a0⟩ := INS.at' (INS.below' ha hbr) hx
      obtain ⟨bb, ob, rfl, b0⟩ := INS.at' (INS.below' hb hbr) hx
      have d1 : decide ((k : Int) < (n : Int)) = true := decide_eq_true (by omega)
      have d2 : (x != x) = false := by simp
      have bi : 0 ≤ (k : Int) ∧ (k : Int) < (n : Int) := by omega
      clear ha hb hkl hx
      go_wp2_with fail
      go_quiet (fail)
      go_wp2_with fail
      exact ⟨⟨k + 1, by omega, by simp, below_drewN hbr _⟩, by simp only [intOf]; omega⟩
    · have hkn : k = n := by omega
      subst hkn
      have d1 : decide ((k : Int) < (k : Int)) = false := decide_eq_false (by omega)
      clear ha hb
      go_wp2_with fail
      go_ret
      exact ⟨rfl, hbr⟩
/-- A text's first n bytes. -/
def fewF (s : ByteArray) (n : Nat) : ByteArray := if n < s.size then s.extract 0 n else s
theorem fewF_size (s : ByteArray) (n : Nat) : (fewF s n).size ≤ n := by
  unfold fewF
  split
  · rw [ByteArray.size_extract]; omega
  · omega
theorem few10_any (s : ByteArray) (n : Nat) (w : World) : Calls Tryd.prog 16 #[.string s, .int .i64 (n : Nat)] w fun e w' => e = .returned (.string (fewF s n)) ∧ w' = w := by
  by_cases h : n < s.size
  · have hf : fewF s n = s.extract 0 n := by unfold fewF; rw [if_pos h]
    rw [hf]
    have d : decide ((n : Int) < (s.size : Int)) = true := decide_eq_true (by omega)
    have hle : 0 ≤ (n : Int) ∧ (n : Int) ≤ (s.size : Int) := by omega
    go_enter Tryd.func16, Tryd.ntmps16
    go_wp2_with fail
    go_ret
    exact ⟨rfl, rfl⟩
  · have hf : fewF s n = s := by unfold fewF; rw [if_neg h]
    rw [hf]
    have d : decide ((n : Int) < (s.size : Int)) = false := decide_eq_false (by omega)
    go_enter Tryd.func16, Tryd.ntmps16
    go_wp2_with fail
    go_ret
    exact ⟨rfl, rfl⟩
theorem bmerge_no (p : Option Addr) (s : ByteArray) (w : World) (h : refuF p s.size ≠ 0) :
    Calls Tryd.prog 10 #[.pointer p, .string s] w fun e w' => e = .returned (.tuple #[.slice none 0 0, .int .i64 (refuF p s.size)]) ∧ w' = w := by
  have HR := refusal_any p s.size w
  obtain ⟨y, hy⟩ : ∃ y, y = refuF p s.size := ⟨_, rfl⟩
  rw [← hy] at h HR ⊢
  have d : (y != 0) = true := by simpa using h
  clear hy h
  go_enter Tryd.func10, Tryd.ntmps10
  go_wp2_with fail
  refine HR.mono ?_
  rintro e w1 ⟨rfl, he⟩
  obtain rfl := he.symm
  clear HR
  go_wp2_with fail
  exact bodyPost_ret (v := .tuple #[.slice none 0 0, .int .i64 y]) (by simp [results, Tryd.results10, go_sem]) rfl ⟨rfl, rfl⟩
set_option maxHeartbeats 1000000 in
theorem bmerge_any (mg lo : Nat) (s : ByteArray) (ws : List ByteArray) (ms : List Mg) (A B C : List Sp) (w : World) (hs : s.size ≤ 1048576) (hMI : ∀ l r k i, mergeM ms l r = some (k, i) → W64 i) (hM : ModelAt w lo mg ws ms A B C) :
    Calls Tryd.prog 10 #[.pointer (some ⟨mg, 0, none⟩), .string s] w fun e w' => ∃ v l st, e = .returned (.tuple #[v, .int .i64 0]) ∧ RowN w' w.heap.size v l ∧ JR ms (byL s) st l ∧ Below w.heap.size w w' ∧ v.ownBlock ≠ none := by
  have HR := refusal_any (some ⟨mg, 0, none⟩) s.size w
  rw [show refuF (some ⟨mg, 0, none⟩) s.size = 0 by unfold refuF; rw [if_neg (by simp), if_neg (by omega)]] at HR
  have HB := bytesOf_any s w hs
  have hlow : lo ≤ w.heap.size := by
    obtain ⟨a0, c0, a1, c1, a2, c2, a3, c3, a4, c4, gt, gr, h1, h2, h3, h4⟩ := hM
    have := (Array.getElem?_eq_some_iff.1 h3).1
    omega
  go_enter Tryd.func10, Tryd.ntmps10
  go_wp2_with fail
  refine HR.mono ?_
  rintro e w1 ⟨rfl, he⟩
  obtain rfl := he.symm
  clear HR
  go_wp2_with fail
  refine HB.mono ?_
  rintro e w2 ⟨rfl, hI2, hb2⟩
  clear HB
  have HN := newRow_any w.heap.size mg w.heap.size lo (some ⟨w.heap.size, 0, none⟩) s.size s.size (byJ s) ws ms A B C w2 hs (.inr ⟨rfl, hI2, Nat.le_refl _⟩) (hM.below hb2) (fun k _ => by have := byJ_range s k; unfold W64; omega) hb2.size
  go_wp2_with fail
  refine HN.mono ?_
  rintro e w3 ⟨r, ib', cg, cb, hg, hv, H, rfl, hR3, hib, hlt, hH3, hC3, hl3, hb3⟩
  clear HN
  have hcn : CH.cntG (CH.inn0 s.size) s.size = s.size := CH.cnt_all (Nat.le_refl _)
  have B3 := hb2.trans (hb3.mono hb2.size)
  have HJ := bjoined_any w.heap.size r mg ib' cg cb hg lo _ _ s.size hv (CH.inn0 s.size, byJ s) H ws ms A B C w w3 hMI hM (Nat.le_refl _) hib hlt B3 (by rw [hcn]; exact hR3) (fun k _ => by have := byJ_range s k; show W64 (byJ s k); unfold W64; omega) hH3 hC3 (by rw [hcn]; omega)
  rw [vw_by] at HJ
  have hs3 := B3.size
  clear hR3 hib hlt hH3 hC3 hl3 hb3 hI2 hb2 hcn
  go_wp2_with fail
  refine HJ.mono ?_
  rintro e w4 ⟨v, l, st, rfl, hv4, hj4, hb4, hnb⟩
  clear HJ
  have B4 := B3.trans hb4
  have hv5 : RowN w4 w.heap.size v l := ⟨hv4.1, by
    rcases hv4.2 with h0 | ⟨b, cap, cur, e, hb, rr⟩
    · exact .inl h0
    · exact .inr ⟨b, cap, cur, e, Nat.le_trans hs3 hb, rr⟩⟩
  clear hv4
  go_wp2_with fail
  exact bodyPost_ret (v := .tuple #[v, .int .i64 0]) (by simp [results, Tryd.results10, go_sem]) rfl ⟨v, l, st, rfl, hv5, hj4, B4, hnb⟩
end Go.Proofs.YtjbdhakogbolkaaDoor
end
section
/- bpe in plain mathematics: words of ids; the step that is next, reckoned. -/
namespace Go.Proofs.YtjbdhakogbolkaaDoor
set_option linter.unusedVariables false
/-- The next step, reckoned. -/
def nxC (ms : List Mg) (l : List Int) : Nat → Option (Nat × Nat × Int)
  | 0 => none
  | m + 1 => match mpJ ms l m with
    | none => nxC ms l m
    | some x => match nxC ms l m with
      | none => some (x.1, m, x.2)
      | some y => if x.1 < y.1 then some (x.1, m, x.2) else some y
theorem nxC_spec (ms : List Mg) (l : List Int) : ∀ m, match nxC ms l m with
    | none => ∀ j, j < m → mpJ ms l j = none
    | some y => y.2.1 < m ∧ mpJ ms l y.2.1 = some (y.1, y.2.2) ∧ ∀ j k' i', j < m → mpJ ms l j = some (k', i') → y.1 < k' ∨ (y.1 = k' ∧ y.2.1 ≤ j)
  | 0 => fun j h => by omega
  | m + 1 => by
    have ih := nxC_spec ms l m
    unfold nxC
    cases hm : mpJ ms l m with
    | none =>
      simp only
      cases hr : nxC ms l m with
      | none =>
        rw [hr] at ih
        simp only at ih ⊢
        intro j hj
        by_cases e : j = m
        · rw [e]; exact hm
        · exact ih j (by omega)
      | some y =>
        rw [hr] at ih
        simp only at ih ⊢
        refine ⟨by omega, ih.2.1, fun j k' i' hj h => ?_⟩
        by_cases e : j = m
        · rw [e, hm] at h; cases h
        · exact ih.2.2 j k' i' (by omega) h
    | some x =>
      simp only
      cases hr : nxC ms l m with
      | none =>
        rw [hr] at ih
        simp only at ih ⊢
        refine ⟨by omega, hm, fun j k' i' hj h => ?_⟩
        by_cases e : j = m
        · rw [e, hm] at h
          simp only [Option.some.injEq] at h
          subst h
          right; exact ⟨rfl, by omega⟩
        · rw [ih j (by omega)] at h; cases h
      | some y =>
        rw [hr] at ih
        simp only at ih ⊢
        by_cases hk : x.1 < y.1
        · rw [if_pos hk]
          simp only
          refine ⟨by omega, hm, fun j k' i' hj h => ?_⟩
          by_cases e : j = m
          · rw [e, hm] at h
            simp only [Option.some.injEq] at h
            subst h
            right; exact ⟨rfl, by omega⟩
          · have := ih.2.2 j k' i' (by omega) h
            omega
        · rw [if_neg hk]
          refine ⟨by omega, ih.2.1, fun j k' i' hj h => ?_⟩
          by_cases e : j = m
          · rw [e, hm] at h
            simp only [Option.some.injEq] at h
            subst h
            have := ih.1
            simp only at hk
            omega
          · exact ih.2.2 j k' i' (by omega) h
theorem nxC_some {ms : List Mg} {l : List Int} {k a : Nat} {i : Int} (h : nxC ms l l.length = some (k, a, i)) : IsN ms l k a i := by
  have hs := nxC_spec ms l l.length
  rw [h] at hs
  exact ⟨hs.2.1, fun j k' i' hj => hs.2.2 j k' i' (by have := mpJ_lt hj; omega) hj⟩
theorem nxC_none {ms : List Mg} {l : List Int} (h : nxC ms l l.length = none) : NoN ms l := by
  have hs := nxC_spec ms l l.length
  rw [h] at hs
  intro j
  cases hj : mpJ ms l j with
  | none => rfl
  | some x => rw [← hj]; exact hs j (by have := mpJ_lt hj; omega)
/-- All ids are known. -/
def KnJ (ws : List ByteArray) (l : List Int) : Prop := ∀ x ∈ l, ∃ w, wordM ws x = some w
/-- The words of ids, one behind the other. -/
def txJ (ws : List ByteArray) (l : List Int) : List UInt8 := l.flatMap fun x => ((wordM ws x).getD ⟨#[]⟩).data.toList
theorem txJ_append (ws : List ByteArray) (a b : List Int) : txJ ws (a ++ b) = txJ ws a ++ txJ ws b := by unfold txJ; rw [List.flatMap_append]
/-- The two at a place, and what became of them. -/
theorem repl_parts {l : List Int} {a : Nat} {i x y : Int} (hx : l[a]? = some x) (hy : l[a + 1]? = some y) : l = l.take a ++ x :: y :: l.drop (a + 2) ∧ repl l a i = l.take a ++ i :: l.drop (a + 2) := by
  have h1 := (List.getElem?_eq_some_iff.1 hx)
  have h2 := (List.getElem?_eq_some_iff.1 hy)
  obtain ⟨ha, hxe⟩ := h1
  obtain ⟨hb, hye⟩ := h2
  constructor
  · rw [← hxe, ← hye, List.getElem_cons_drop, List.getElem_cons_drop, List.take_append_drop]
  · unfold repl
    rw [List.eraseIdx_eq_take_drop_succ]
    apply List.ext_getElem?
    intro j
    rcases Nat.lt_trichotomy j a with h | h | h
    · rw [List.getElem?_append_left (by simp; omega), List.getElem?_append_left (by simp; omega), List.getElem?_take, List.getElem?_take, if_pos (by omega), if_pos h, List.getElem?_set, if_neg (by omega)]
    · subst h
      rw [List.getElem?_append_left (by simp; omega), List.getElem?_append_right (by simp; omega), List.getElem?_take, if_pos (by omega), List.getElem?_set]
      simp [ha, Nat.min_eq_left (Nat.le_of_lt ha)]
    · rw [List.getElem?_append_right (by simp; omega), List.getElem?_append_right (by simp; omega)]
      rw [List.length_take, List.length_take, List.length_set, Nat.min_eq_left (by omega), Nat.min_eq_left (by omega), List.getElem?_drop, List.getElem?_set, if_neg (by omega), show j - a = (j - a - 1) + 1 by omega, List.getElem?_cons_succ, List.getElem?_drop]
      congr 1
      try omega
theorem mergeM_get {ms : List Mg} {l r : Int} {k : Nat} {i : Int} (h : mergeM ms l r = some (k, i)) : ∃ x, ms[k]? = some x ∧ x.l = l ∧ x.r = r ∧ x.i = i := by
  unfold mergeM at h
  cases hr : rankM ms l r with
  | none => rw [hr] at h; cases h
  | some k' =>
    rw [hr] at h
    simp only [Option.bind_some] at h
    obtain ⟨x, hx, hp, _⟩ := rankM_get hr
    rw [hx] at h
    simp only [Option.map_some, Option.some.injEq, Prod.mk.injEq] at h
    obtain ⟨rfl, rfl⟩ := h
    unfold pairB at hp
    simp only [Bool.and_eq_true, beq_iff_eq] at hp
    exact ⟨x, hx, hp.1, hp.2, rfl⟩
theorem merge_word {ws : List ByteArray} {ms : List Mg} {A B C : List Sp} (hk : MOk ws ms A B C) {l r : Int} {k : Nat} {i : Int} (h : mergeM ms l r = some (k, i)) : wordM ws i = some (joinM ws l r) := by
  obtain ⟨x, hx, rfl, rfl, rfl⟩ := mergeM_get h
  have hc := hk.cuts k (List.getElem?_eq_some_iff.1 hx).1
  have hc0 : cutM ws ms k = 0 := by
    unfold badM at hc
    by_cases h0 : cutM ws ms k ≠ 0
    · rw [if_pos h0] at hc; exact absurd hc h0
    · simpa using h0
  unfold cutM at hc0
  rw [hx] at hc0
  simp only at hc0
  split at hc0
  · cases hc0
  · split at hc0
    · cases hc0
    · split at hc0
      · cases hc0
      · rename_i h3
        simpa using h3
theorem isN_parts {ms : List Mg} {l : List Int} {k a : Nat} {i : Int} (h : mpJ ms l a = some (k, i)) : ∃ x y, l[a]? = some x ∧ l[a + 1]? = some y ∧ mergeM ms x y = some (k, i) := by
  unfold mpJ at h
  cases h1 : l[a]? with
  | none => rw [h1] at h; cases h
  | some x =>
    cases h2 : l[a + 1]? with
    | none => rw [h1, h2] at h; cases h
    | some y =>
      rw [h1, h2] at h
      exact ⟨x, y, rfl, rfl, h⟩
theorem repl_words {ws : List ByteArray} {ms : List Mg} {A B C : List Sp} (hk : MOk ws ms A B C) {l : List Int} {k a : Nat} {i : Int} (h : mpJ ms l a = some (k, i)) (hl : KnJ ws l) : KnJ ws (repl l a i) ∧ txJ ws (repl l a i) = txJ ws l := by
  obtain ⟨x, y, hx, hy, hm⟩ := isN_parts h
  obtain ⟨h1, h2⟩ := repl_parts (i := i) hx hy
  have hw := merge_word hk hm
  refine ⟨fun z hz => ?_, ?_⟩
  · rw [h2] at hz
    rcases List.mem_append.1 hz with hz | hz
    · exact hl z (List.mem_of_mem_take hz)
    · rcases List.mem_cons.1 hz with rfl | hz
      · exact ⟨_, hw⟩
      · exact hl z (List.mem_of_mem_drop hz)
  · rw [h2]
    conv => rhs; rw [h1]
    rw [txJ_append, txJ_append]
    congr 1
    unfold txJ
    rw [List.flatMap_cons, List.flatMap_cons, List.flatMap_cons, hw, ← List.append_assoc]
    congr 1
    try (unfold joinM; simp [ByteArray.data_append])
theorem JR.words {ws : List ByteArray} {ms : List Mg} {A B C : List Sp} (hk : MOk ws ms A B C) {l : List Int} {st : List (Nat × Nat)} {r : List Int} (h : JR ms l st r) (hl : KnJ ws l) : KnJ ws r ∧ txJ ws r = txJ ws l := by
  induction h with
  | done _ => exact ⟨hl, rfl⟩
  | step h _ ih =>
    obtain ⟨h1, h2⟩ := repl_words hk h.1 hl
    obtain ⟨h3, h4⟩ := ih h1
    exact ⟨h3, h4.trans h2⟩
theorem JR.fin {ms : List Mg} {l : List Int} {st : List (Nat × Nat)} {r : List Int} (h : JR ms l st r) : NoN ms r := by
  induction h with
  | done h => exact h
  | step _ _ ih => exact ih
theorem JR.len {ms : List Mg} {l : List Int} {st : List (Nat × Nat)} {r : List Int} (h : JR ms l st r) : r.length + st.length = l.length := by
  induction h with
  | done _ => simp
  | step h _ ih =>
    have h1 := mpJ_lt h.1
    rw [repl_length h1] at ih
    rw [List.length_cons]
    omega
end Go.Proofs.YtjbdhakogbolkaaDoor
end
section
/- bpe.Joined; the law's known: their contracts. -/
namespace Go.Proofs.YtjbdhakogbolkaaDoor
open Go.RowKit Go.Joins Go.Sort
set_option linter.unusedVariables false
set_option linter.unusedSimpArgs false
set_option maxRecDepth 100000
theorem joined_no (p : Option Addr) (a : Option Addr) (n c : Nat) (w : World) (h : refuF p n ≠ 0) :
    Calls Tryd.prog 11 #[.pointer p, .slice a n c] w fun e w' => e = .returned (.tuple #[.slice none 0 0, .int .i64 (refuF p n)]) ∧ w' = w := by
  have HR := refusal_any p n w
  obtain ⟨y, hy⟩ : ∃ y, y = refuF p n := ⟨_, rfl⟩
  rw [← hy] at h HR ⊢
  have d : (y != 0) = true := by simpa using h
  clear hy h
  go_enter Tryd.func11, Tryd.ntmps11
  go_wp2_with fail
  refine HR.mono ?_
  rintro e w1 ⟨rfl, he⟩
  obtain rfl := he.symm
  clear HR
  go_wp2_with fail
  exact bodyPost_ret (v := .tuple #[.slice none 0 0, .int .i64 y]) (by simp [results, Tryd.results11, go_sem]) rfl ⟨rfl, rfl⟩
/-- Are all ids known? -/
def allK (ws : List ByteArray) (l : List Int) : Bool := l.all fun x => (wordM ws x).isSome
theorem allK_yes {ws : List ByteArray} {l : List Int} (h : allK ws l = true) : KnJ ws l := fun x hx => by
  have := List.all_eq_true.1 h x hx
  cases hw : wordM ws x with
  | none => rw [hw] at this; cases this
  | some w => exact ⟨w, rfl⟩
theorem KnJ.all {ws : List ByteArray} {l : List Int} (h : KnJ ws l) : allK ws l = true := by
  refine List.all_eq_true.2 fun x hx => ?_
  obtain ⟨w, hw⟩ := h x hx
  rw [hw]; rfl
set_option maxHeartbeats 2000000 in
theorem bjoin_any (mg lo : Nat) (a : Option Addr) (c : Nat) (l : List Int) (ws : List ByteArray) (ms : List Mg) (A B C : List Sp) (w : World) (hl : l.length ≤ 1048576) (hn : ws.length ≤ 4611686018427387904) (hin : CH.INS w a l) (hW : ∀ x ∈ l, W64 x) (hMI : ∀ l r k i, mergeM ms l r = some (k, i) → W64 i) (hM : ModelAt w lo mg ws ms A B C) :
    Calls Tryd.prog 11 #[.pointer (some ⟨mg, 0, none⟩), .slice a l.length c] w fun e w' => (allK ws l = false → e = .returned (.tuple #[.slice none 0 0, .int .i64 24])) ∧ (allK ws l = true → ∃ v r st, e = .returned (.tuple #[v, .int .i64 0]) ∧ RowN w' w.heap.size v r ∧ JR ms l st r) ∧ Below w.heap.size w w' := by
  have HR := refusal_any (some ⟨mg, 0, none⟩) l.length w
  rw [show refuF (some ⟨mg, 0, none⟩) l.length = 0 by unfold refuF; rw [if_neg (by simp), if_neg (by omega)]] at HR
  have hlow : lo ≤ w.heap.size := by
    obtain ⟨a0, c0, a1, c1, a2, c2, a3, c3, a4, c4, gt, gr, h1, h2, h3, h4⟩ := hM
    have := (Array.getElem?_eq_some_iff.1 h3).1
    omega
  obtain ⟨n, hnn⟩ : ∃ n, n = l.length := ⟨_, rfl⟩
  have HN : Hid (n = l.length) := hnn
  rw [← hnn] at HR hl ⊢
  clear hnn
  obtain ⟨ak, hak⟩ : ∃ ak, ak = allK ws l := ⟨_, rfl⟩
  have HAK : Hid (ak = allK ws l) := hak
  rw [← hak]
  clear hak
  go_enter Tryd.func11, Tryd.ntmps11
  go_wp2_with fail
  refine HR.mono ?_
  rintro e w1 ⟨rfl, he⟩
  obtain rfl := he.symm
  clear HR
  go_wp2_with fail
  go_loopw [20] (fun v wr => ∃ k : Nat, k ≤ n ∧ v = .int .i64 (k : Nat) ∧ (∀ (i : Nat) (x : Int), i < k → l[i]? = some x → (wordM ws x).isSome = true) ∧ Below w.heap.size w wr) (fun v _ => n - (intOf v).toNat)
  case atStart => exact ⟨0, Nat.zero_le _, rfl, fun i x h => by omega, Below.refl _ _⟩
  case round =>
    obtain ⟨k, hk, rfl, hkn, hB⟩ := hrel
    by_cases hlt : k < n
    · have d : decide ((k : Int) < (n : Int)) = true := decide_eq_true (by omega)
      obtain ⟨x, hx⟩ : ∃ x, l[k]? = some x := ⟨_, List.getElem?_eq_getElem (by rw [← HN.out]; exact hlt)⟩
      obtain ⟨b, off, rfl, c0⟩ := INS.at' (INS.below' hin hB) hx
      have HWd := mword_any mg lo ws ms A B C x wr hn (hM.below hB)
      have bi : 0 ≤ (k : Int) ∧ (k : Int) < (n : Int) := by omega
      obtain ⟨o, ho⟩ : ∃ o, o = wordM ws x := ⟨_, rfl⟩
      rw [← ho] at HWd
      unfold wdV at HWd
      have HX : Hid (l[k]? = some x) := hx
      have HKN : Hid (∀ (i : Nat) (x : Int), i < k → l[i]? = some x → (wordM ws x).isSome = true) := hkn
      have HO : Hid (o = wordM ws x) := ho
      have HIN : Hid (CH.INS w (some ⟨b, off, none⟩) l) := hin
      have HW64 : Hid (∀ x ∈ l, W64 x) := hW
      have HMI : Hid (∀ l r k i, mergeM ms l r = some (k, i) → W64 i) := hMI
      clear hx hkn ho hin hW hMI
      cases o with
      | none =>
        have hf : allK ws l = false := by
          cases hc : allK ws l with
          | false => rfl
          | true =>
            have := List.all_eq_true.1 hc x (List.mem_of_getElem? HX.out)
            rw [← HO.out] at this
            cases this
        obtain rfl : ak = false := HAK.out.trans hf
        clear hf
        go_wp2_with fail
        refine HWd.mono ?_
        rintro e w3 ⟨rfl, hb3⟩
        clear HWd c0
        go_wp2_with fail
        refine bodyPost_ret (v := .tuple #[.slice none 0 0, .int .i64 24]) (by simp [results, Tryd.results11, go_sem]) rfl ⟨rfl, hB.trans (hb3.mono hB.size)⟩
      | some t =>
        go_wp2_with fail
        refine HWd.mono ?_
        rintro e w3 ⟨rfl, hb3⟩
        clear HWd c0
        go_wp2_with fail
        refine ⟨⟨k + 1, by omega, by simp, fun i y hi hy => ?_, hB.trans (hb3.mono hB.size)⟩, by simp only [intOf]; omega⟩
        by_cases e : i = k
        · subst e
          rw [HX.out] at hy
          cases hy
          rw [← HO.out]; rfl
        · exact HKN.out i y (by omega) hy
    · obtain rfl : k = n := by omega
      have d : decide ((k : Int) < (k : Int)) = false := decide_eq_false (by omega)
      have hall : allK ws l = true := List.all_eq_true.2 fun x hx => by
        obtain ⟨i, hi⟩ := List.mem_iff_getElem?.1 hx
        exact hkn i x (by have := (List.getElem?_eq_some_iff.1 hi).1; rw [HN.out]; exact this) hi
      obtain rfl : ak = true := HAK.out.trans hall
      have HCl := cloneN_any a c l wr (by rw [← HN.out]; omega) (INS.below' hin hB)
      rw [← HN.out] at HCl
      clear hkn hall hin
      go_wp2_with fail
      refine HCl.mono ?_
      rintro e w3 ⟨v, rfl, hv3, hb3⟩
      clear HCl
      obtain ⟨ia, ic, ib, rfl, hid3⟩ := hv3.ids
      rw [← HN.out] at hid3 ⊢
      have B3 := hB.trans (hb3.mono hB.size)
      have hWg : ∀ j, j < k → W64 (getI l j) := fun j hj => by
        have hjl : j < l.length := by rw [← HN.out]; exact hj
        unfold getI
        rw [List.getElem?_eq_getElem hjl]
        exact hW _ (List.getElem_mem hjl)
      have HNR := newRow_any wr.heap.size mg ib lo ia ic k (getI l) ws ms A B C w3 hl hid3 (hM.below B3) hWg hb3.size
      have hszr := hB.size
      clear hv3 hid3
      go_wp2_with fail
      refine HNR.mono ?_
      rintro e w4 ⟨r, ib', cg, cb, hg, hv, H, rfl, hR4, hib, hlt4, hH4, hC4, hl4, hb4⟩
      clear HNR
      have hcn : CH.cntG (CH.inn0 k) k = k := CH.cnt_all (Nat.le_refl _)
      have B4 := B3.trans (hb4.mono B3.size)
      have HJ := bjoined_any wr.heap.size r mg ib' cg cb hg lo _ _ k hv (CH.inn0 k, getI l) H ws ms A B C w w4 hMI hM hszr hib hlt4 B4 (by rw [hcn]; exact hR4) hWg hH4 hC4 (by rw [hcn]; omega)
      have hvw : vwJ (CH.inn0 k) k (getI l) = l := by rw [HN.out]; exact vw_getI l
      rw [hvw] at HJ
      have hs4 := B4.size
      clear hR4 hib hlt4 hH4 hC4 hl4 hb4 hb3 hcn hvw hWg B3
      go_wp2_with fail
      refine HJ.mono ?_
      rintro e w5 ⟨v, lr, st, rfl, hv5, hj5, hb5, hnb⟩
      clear HJ
      have B5 := B4.trans (hb5.mono hszr)
      have hv6 : RowN w5 w.heap.size v lr := ⟨hv5.1, by
        rcases hv5.2 with h0 | ⟨b, cap, cur, e, hb, rr⟩
        · exact .inl h0
        · exact .inr ⟨b, cap, cur, e, Nat.le_trans hs4 hb, rr⟩⟩
      clear hv5
      go_wp2_with fail
      exact bodyPost_ret (v := .tuple #[v, .int .i64 0]) (by simp [results, Tryd.results11, go_sem]) rfl ⟨⟨v, rfl, lr, hv6, st, hj5⟩, B5⟩
theorem the_ab : ∃ st, JR houM (byL ⟨#[116, 104, 101, 32, 97, 98]⟩) st [259, 32, 256] := by
  have e0 : byL ⟨#[116, 104, 101, 32, 97, 98]⟩ = [116, 104, 101, 32, 97, 98] := by decide +kernel
  have e1 : repl [116, 104, 101, 32, 97, 98] 4 256 = [116, 104, 101, 32, 256] := by decide +kernel
  have e2 : repl [116, 104, 101, 32, 256] 0 258 = [258, 101, 32, 256] := by decide +kernel
  have e3 : repl [258, 101, 32, 256] 0 259 = [259, 32, 256] := by decide +kernel
  rw [e0]
  refine ⟨[(0, 4), (2, 0), (3, 0)], JR.step (k := 0) (a := 4) (i := 256) (nxC_some (by decide +kernel)) ?_⟩
  rw [e1]
  refine JR.step (k := 2) (a := 0) (i := 258) (nxC_some (by decide +kernel)) ?_
  rw [e2]
  refine JR.step (k := 3) (a := 0) (i := 259) (nxC_some (by decide +kernel)) ?_
  rw [e3]
  exact JR.done (nxC_none (by decide +kernel))
set_option maxHeartbeats 2000000 in
theorem known10_any (w : World) (hG : GL w) : Calls Tryd.prog 15 #[] w fun e w' => e = .returned (.bool true) ∧ Below w.heap.size w w' := by
  have HO := fun (s0 s1 a b c : Option Addr) (wx : World) (h1 : WSP wx s0 houW) (h2 : MSP wx s1 houM) (h3 : Lst wx a 2 houA) (h4 : Lst wx b 1 houB) (h5 : Lst wx c 2 houC) (hg : GL wx) => keepOf_any s0 s1 a b c 6 6 2 1 2 houW houM houA houB houC wx hou_wf (by decide) h1 h2 h3 h4 h5 hg
  rw [hou_up] at HO
  rw [show houA.length = 2 from rfl, show houB.length = 1 from rfl, show houC.length = 2 from rfl, show houW.length = 6 from rfl, show houM.length = 6 from rfl] at HO
  have H1 := fun (g : Nat) (wx : World) lo (h : ModelAt wx lo g houW houM houA houB houC) => bmerge_any g lo ⟨#[116, 104, 101, 32, 97, 98]⟩ houW houM houA houB houC wx (by decide) (mergeM_W64 hou_wf) h
  go_enter Tryd.func15, Tryd.ntmps15
  go_wp2_with fail
  refine (house_any _).mono ?_
  rintro e w1 ⟨s0, s1, a, b, c, rfl, hW, hM, hA, hB, hC, hb1⟩
  have HO := HO s0 s1 a b c w1 hW hM ⟨Nat.le_refl _, by omega, hA⟩ ⟨Nat.le_refl _, by omega, hB⟩ ⟨Nat.le_refl _, by omega, hC⟩ (hG.below hb1)
  clear hW hM hA hB hC
  go_wp2_with fail
  refine HO.mono ?_
  rintro e w2 ⟨p, rfl, h2, -, hb2⟩
  obtain ⟨g, rfl, hMd⟩ := h2 rfl
  have B2 := hb1.trans (hb2.mono hb1.size)
  clear HO h2 hb1 hb2 hG
  go_wp2_with fail
  refine (H1 g _ _ hMd).mono ?_
  rintro e w3 ⟨v, l, st, rfl, hv3, hj3, hb3, hnb⟩
  obtain ⟨st', hj'⟩ := the_ab
  obtain ⟨-, rfl⟩ := hj3.uniq hj'
  obtain ⟨a3, c3, rfl, hi3⟩ := hv3.ins
  have B3 := B2.trans (hb3.mono B2.size)
  obtain ⟨w4, hw4⟩ : ∃ w4, w4 = w3.alloc (.cells #[.int .i64 259, .int .i64 32, .int .i64 256] 3) := ⟨_, rfl⟩
  have hb4 : Below w3.heap.size w3 w4 := by rw [hw4]; exact (Below.refl _ w3).alloc (Nat.le_refl _) _
  have hi4 : CH.INS w4 (some ⟨w3.heap.size, 0, none⟩) [259, 32, 256] := by
    refine .inr ⟨w3.heap.size, 0, rfl, fun i x hx => ?_⟩
    have hk : w4.heap[w3.heap.size]? = some (.cells #[.int .i64 259, .int .i64 32, .int .i64 256] 3 (0, 0)) := by rw [hw4]; exact heap_alloc_new w3 _
    rw [cell_of_block hk, Nat.zero_add]
    match i, hx with
    | 0, hx => cases hx; rfl
    | 1, hx => cases hx; rfl
    | 2, hx => cases hx; rfl
  have HS := sameN_any a3 (some ⟨w3.heap.size, 0, none⟩) c3 3 [259, 32, 256] w4 (by decide) (INS.below' hi3 hb4) hi4
  rw [show (([259, 32, 256] : List Int).length) = 3 from rfl] at HS ⊢
  clear hv3 hj3 hj' hi3 hi4 H1 hMd hb3
  go_wp2_with fail
  rw [← hw4]
  refine HS.mono ?_
  rintro e w5 ⟨rfl, hb5⟩
  clear HS
  go_wp2_with fail
  go_ret
  exact ⟨rfl, (B3.trans (hb4.mono B3.size)).trans (hb5.mono (by have := B3.size; have := hb4.size; omega))⟩
end Go.Proofs.YtjbdhakogbolkaaDoor
end
section
/- BpeEnds: its walk. -/
namespace Go.Proofs.YtjbdhakogbolkaaDoor
open Go.RowKit Go.Joins Go.Sort
set_option linter.unusedVariables false
set_option linter.unusedSimpArgs false
set_option maxRecDepth 100000
theorem sz_list (b : ByteArray) : b.data.toList.length = b.size := Array.length_toList
theorem byte_known (ws : List ByteArray) (x : Int) (h : 0 ≤ x ∧ x < 256) : wordM ws x = some (byteS x) := by unfold wordM; rw [if_pos h]
theorem byL_known (ws : List ByteArray) (s : ByteArray) : KnJ ws (byL s) := fun x hx => by
  unfold byL at hx
  obtain ⟨c, _, rfl⟩ := List.mem_map.1 hx
  have := c.toNat_lt
  exact ⟨_, byte_known ws _ (by omega)⟩
theorem byL_text (ws : List ByteArray) (s : ByteArray) : txJ ws (byL s) = s.data.toList := by
  unfold txJ byL
  rw [List.flatMap_map]
  have h : ∀ l : List UInt8, l.flatMap (fun c => ((wordM ws (c.toNat : Int)).getD ⟨#[]⟩).data.toList) = l := by
    intro l
    induction l with
    | nil => rfl
    | cons c l ih =>
      rw [List.flatMap_cons, ih, byte_known ws _ (by have := c.toNat_lt; omega)]
      have : (byteS (c.toNat : Int)).data.toList = [c] := by
        unfold byteS
        simp
      simp [this]
  exact h _
theorem KnJ.w64 {ws : List ByteArray} {l : List Int} (h : KnJ ws l) (hn : ws.length ≤ 9223372036854775000) : ∀ x ∈ l, W64 x := fun x hx => by
  obtain ⟨w, hw⟩ := h x hx
  unfold wordM at hw
  unfold W64
  by_cases h0 : 0 ≤ x ∧ x < 256
  · omega
  · rw [if_neg h0] at hw
    by_cases h1 : 256 ≤ x
    · rw [if_pos h1] at hw
      have := (List.getElem?_eq_some_iff.1 hw).1
      omega
    · rw [if_neg h1] at hw; cases hw
theorem txJ_take (ws : List ByteArray) (l : List Int) (k : Nat) (x : Int) (hx : l[k]? = some x) : txJ ws (l.take (k + 1)) = txJ ws (l.take k) ++ ((wordM ws x).getD ⟨#[]⟩).data.toList := by
  rw [List.take_add_one, hx, txJ_append]
  simp [txJ]
theorem txJ_le (ws : List ByteArray) (l : List Int) (k : Nat) : (txJ ws (l.take k)).length ≤ (txJ ws l).length := by
  conv => rhs; rw [← List.take_append_drop k l, txJ_append, List.length_append]
  omega
set_option maxHeartbeats 4000000 in
theorem ends_walk (aw am a b c : Option Addr) (cw cm ca cb cc : Nat) (ws : List ByteArray) (ms : List Mg) (A B C : List Sp) (s0 : ByteArray) (w : World) (hwf : MWf ms) (hn : ws.length ≤ 8796093022208 ∧ ms.length ≤ 5864062014805 ∧ A.length ≤ 17592186044416 ∧ B.length ≤ 17592186044416 ∧ C.length ≤ 17592186044416) (hW : WSP w aw ws) (hM : MSP w am ms) (hA : Lst w a ca A) (hB : Lst w b cb B) (hC : Lst w c cc C) (hG : GL w) :
    Calls Tryd.prog 6 #[.agg #[.slice aw ws.length cw, .slice am ms.length cm, .slice a A.length ca, .slice b B.length cb, .slice c C.length cc], .string s0] w fun e w' => e = .returned (.bool true) ∧ Below w.heap.size w w' := by
  have hD := DBox.new w (.slice aw ws.length cw) (.slice am ms.length cm) (.slice a A.length ca) (.slice b B.length cb) (.slice c C.length cc)
  have hb0 := box_below w (.cells #[.slice aw ws.length cw, .slice am ms.length cm, .slice a A.length ca, .slice b B.length cb, .slice c C.length cc] 30)
  have HW : Hid (WSP w aw ws) := hW
  have HM : Hid (MSP w am ms) := hM
  have HA : Hid (Lst w a ca A) := hA
  have HB : Hid (Lst w b cb B) := hB
  have HC : Hid (Lst w c cc C) := hC
  have HG : Hid (GL w) := hG
  have HMI := mergeM_W64 hwf
  clear hW hM hA hB hC hG
  have x0 := hD.c0
  have x1 := hD.c1
  have x2 := hD.c2
  have x3 := hD.c3
  have x4 := hD.c4
  go_enter Tryd.func6, Tryd.ntmps6
  go_wp2_with fail
  obtain ⟨Y, hY⟩ : ∃ Y, Y = w.alloc (.cells #[.slice aw ws.length cw, .slice am ms.length cm, .slice a A.length ca, .slice b B.length cb, .slice c C.length cc] 30) := ⟨_, rfl⟩
  rw [← hY] at hb0 ⊢
  clear hY x0 x1 x2 x3 x4 hD
  refine (keepOf_any aw am a b c cw cm ca cb cc ws ms A B C Y hwf (by omega) (HW.out.below hb0) (HM.out.below hb0) (HA.out.below hb0) (HB.out.below hb0) (HC.out.below hb0) (HG.out.below hb0)).mono ?_
  rintro e w1 ⟨p, rfl, hp1, hp2, hb1⟩
  have B1 := hb0.trans (hb1.mono hb0.size)
  have hG1 := HG.out.below B1
  clear HW HM HA HB HC HG
  cases hU : upB ws ms A B C with
  | false =>
    obtain rfl := hp2 hU
    clear hp1 hp2 hU hb1 hb0 HMI
    go_wp2_with fail
    refine (known10_any w1 hG1).mono ?_
    rintro e w9 ⟨rfl, hb9⟩
    go_wp2_with fail
    go_ret
    exact ⟨rfl, B1.trans (hb9.mono B1.size)⟩
  | true =>
    obtain ⟨g, rfl, hMd⟩ := hp1 hU
    have hk := upB_ok hU
    have HK : Hid (MOk ws ms A B C) := hk
    clear hp1 hp2 hU hb1 hb0 hk
    obtain ⟨s, hs⟩ : ∃ s, s = fewF s0 3000 := ⟨_, rfl⟩
    have hsz : s.size ≤ 3000 := by rw [hs]; exact fewF_size _ _
    have HF := few10_any s0 3000 w1
    rw [← hs] at HF
    rw [show ((3000 : Nat) : Int) = 3000 from rfl] at HF
    clear hs
    have HMe := bmerge_any g _ s ws ms A B C w1 (by omega) HMI hMd
    go_wp2_with fail
    refine HF.mono ?_
    rintro e w2 ⟨rfl, he⟩
    obtain rfl := he.symm
    clear HF
    go_wp2_with fail
    refine HMe.mono ?_
    rintro e w3 ⟨v, l, st, rfl, hv3, hj3, hb3, hnb⟩
    clear HMe
    have B3 := B1.trans (hb3.mono B1.size)
    obtain ⟨ia, ic, rfl, hi3⟩ := hv3.ins
    obtain ⟨hkn, htx⟩ := hj3.words HK.out (byL_known ws s)
    rw [byL_text] at htx
    have hno := hj3.fin
    have hll : l.length ≤ 3000 := by
      have := hj3.len
      rw [byL_length] at this
      omega
    have hM3 := hMd.below hb3
    have hG3 := hG1.below hb3
    obtain ⟨n, hnn⟩ : ∃ n, n = l.length := ⟨_, rfl⟩
    have HN : Hid (n = l.length) := hnn
    rw [← hnn] at hll ⊢
    have HTX : Hid (txJ ws l = s.data.toList) := htx
    have HKN : Hid (KnJ ws l) := hkn
    have HNO : Hid (NoN ms l) := hno
    have HI : Hid (CH.INS w3 ia l) := hi3
    have HMI' : Hid (∀ l r k i, mergeM ms l r = some (k, i) → W64 i) := HMI
    clear hnn hv3 hj3 hi3 hkn htx hno hMd hG1 hb3 HMI
    go_wp2_with fail
    go_loopw [10, 11] (fun v10 v11 wr => ∃ (k : Nat) (acc : ByteArray), k ≤ n ∧ v10 = .string acc ∧ v11 = .int .i64 (k : Nat) ∧ acc.data.toList = txJ ws (l.take k) ∧ Below w3.heap.size w3 wr) (fun _ v11 _ => n - (intOf v11).toNat)
    case atStart => exact ⟨0, _, Nat.zero_le _, rfl, rfl, rfl, Below.refl _ _⟩
    case round =>
      obtain ⟨k, acc, hk, rfl, rfl, hacc, hBr⟩ := hrel
      have HACC : Hid (acc.data.toList = txJ ws (l.take k)) := hacc
      have hB4 := B3.trans (hBr.mono B3.size)
      have haz : acc.size ≤ 3000 := by
        have h1 := congrArg List.length hacc
        have h2 := txJ_le ws l k
        rw [HTX.out, sz_list] at h2
        rw [sz_list] at h1
        omega
      clear hacc
      by_cases hlt : k < n
      · have d : decide ((k : Int) < (n : Int)) = true := decide_eq_true (by omega)
        have hkl : k < l.length := by rw [← HN.out]; exact hlt
        obtain ⟨x, hx⟩ : ∃ x, l[k]? = some x := ⟨_, List.getElem?_eq_getElem hkl⟩
        obtain ⟨t, ht⟩ := HKN.out x (List.mem_of_getElem? hx)
        obtain ⟨ba, off, rfl, c0⟩ := INS.at' (INS.below' HI.out hBr) hx
        have HWd := mword_any g _ ws ms A B C x wr (by omega) (hM3.below hBr)
        rw [ht] at HWd
        unfold wdV at HWd
        simp only [Option.getD_some, Option.isSome_some] at HWd
        have hstep := txJ_take ws l k x hx
        rw [ht, Option.getD_some, ← HACC.out] at hstep
        have hap : (acc ++ t).data.toList = acc.data.toList ++ t.data.toList := by simp [ByteArray.data_append]
        have HAC2 : Hid ((acc ++ t).data.toList = txJ ws (l.take (k + 1))) := hap.trans hstep.symm
        have htz : t.size ≤ 3000 := by
          have h1 := congrArg List.length HAC2.out
          have h2 := txJ_le ws l (k + 1)
          rw [HTX.out, sz_list] at h2
          rw [hap, List.length_append, sz_list, sz_list] at h1
          omega
        have bi : 0 ≤ (k : Int) ∧ (k : Int) < (n : Int) := by omega
        have HX : Hid (l[k]? = some x) := hx
        clear hstep hap ht hx
        go_wp2_with fail
        refine HWd.mono ?_
        rintro e w5 ⟨rfl, hb5⟩
        clear HWd
        have hBr5 := hBr.trans (hb5.mono hBr.size)
        obtain ⟨_, _, e0, c5⟩ := INS.at' (INS.below' HI.out hBr5) HX.out
        cases e0
        by_cases hk0 : k = 0
        · subst hk0
          have dk : decide ((0 : Int) < 0) = false := rfl
          clear c0 c5
          go_wp2_with fail
          exact ⟨⟨1, _, by omega, rfl, rfl, HAC2.out, hBr5⟩, by simp only [intOf]; omega⟩
        · have dk : decide ((0 : Int) < (k : Int)) = true := decide_eq_true (by omega)
          obtain ⟨m, hm⟩ : ∃ m, m = k - 1 := ⟨_, rfl⟩
          have hmi : (k : Int) - 1 = ((m : Nat) : Int) := by omega
          have bm : 0 ≤ (m : Int) ∧ (m : Int) < (n : Int) := by omega
          obtain ⟨y, hy⟩ : ∃ y, l[m]? = some y := ⟨_, List.getElem?_eq_getElem (by omega)⟩
          obtain ⟨_, _, e0, c6⟩ := INS.at' (INS.below' HI.out hBr5) hy
          cases e0
          have hmn : mergeM ms y x = none := by
            have h1 := HNO.out m
            unfold mpJ at h1
            rw [hy, show m + 1 = k by omega, HX.out] at h1
            exact h1
          have h64 := HKN.out.w64 (by omega)
          have HMm := fun d os => merge_any g _ ws ms A B C y x (grow (redrawn w5 d) os) (h64 y (List.mem_of_getElem? hy)) (h64 x (List.mem_of_getElem? HX.out)) ((hM3.below hBr5).below (below_regrown w5 d os))
          rw [hmn, show mrV none = .tuple #[.int .i64 0, .int .i64 0, .bool false] from rfl] at HMm
          have k5 := cell_regrown c5
          have k6 := cell_regrown c6
          have hss5 := hBr5.size
          clear hm hmn h64 hy hk0 c0 c5 c6
          go_upto_region 17 with fail
          refine wp_region_quiet_below (by kernel_rfl) (by kernel_rfl) ?_
          repeat (go_big_quiet_step ((go_at_call 24; exact Calls.regrown_of (HMm _ _))))
          refine wpQuiet_nil ?_
          intro W6 hw'
          have hb6 : Below w5.heap.size w5 W6 := by
            obtain ⟨⟨dq, osq⟩, rfl⟩ := hw'
            exact below_regrown _ _ _
          clear hw' HMm k5 k6
          go_wp2_with fail
          exact ⟨⟨k + 1, _, by omega, rfl, by simp, HAC2.out, hBr5.trans (hb6.mono hss5)⟩, by simp only [intOf]; omega⟩
      · obtain rfl : k = n := by omega
        have d : decide ((k : Int) < (k : Int)) = false := decide_eq_false (by omega)
        have heq : acc = s := by
          have h1 := HACC.out
          rw [HN.out, List.take_length, HTX.out] at h1
          cases acc; cases s
          simp only at h1
          congr 1
          exact Array.toList_inj.1 h1
        subst heq
        have h64 := HKN.out.w64 (by omega)
        have HJn := bjoin_any g _ ia ic l ws ms A B C wr (by rw [← HN.out]; omega) (by omega) (INS.below' HI.out hBr) h64 HMI'.out (hM3.below hBr)
        rw [← HN.out] at HJn
        have hss := hBr.size
        have hssB := hB4.size
        clear h64
        go_wp2_with fail
        refine HJn.mono ?_
        rintro e w5 ⟨-, hyes, hb5⟩
        obtain ⟨v, r, st', rfl, hv5, hj5⟩ := hyes HKN.out.all
        obtain ⟨-, rfl⟩ := (JR.done HNO.out).uniq hj5
        obtain ⟨a5, c5, rfl, hi5⟩ := hv5.ins
        rw [← HN.out]
        have hBr5 := hBr.trans (hb5.mono hss)
        have B5 := B3.trans (hBr5.mono B3.size)
        have HS := sameN_any a5 ia c5 ic l w5 (by rw [← HN.out]; omega) hi5 (INS.below' HI.out hBr5)
        rw [← HN.out] at HS
        have HKw := fun wx (h : Below w5.heap.size w5 wx) => known10_any wx (hG3.below (hBr5.trans (h.mono hBr5.size)))
        clear HJn hv5 hj5 hi5 hyes
        go_wp2_with fail
        refine HS.mono ?_
        rintro e w6 ⟨rfl, hb6⟩
        clear HS
        go_wp2_with fail
        refine (HKw w6 hb6).mono ?_
        rintro e w7 ⟨rfl, hb7⟩
        clear HKw
        go_wp2_with fail
        go_ret
        exact ⟨rfl, (B5.trans (hb6.mono B5.size)).trans (hb7.mono (by have := B5.size; have := hb6.size; omega))⟩
end Go.Proofs.YtjbdhakogbolkaaDoor
end
section
/- What the listed package-level variables hold, off the row's condition. -/
namespace Go.Proofs.YtjbdhakogbolkaaDoor
open Go.ChangeShapes Go.WideShapes Go.ChangeAt Go.WideMaps Go.WideElems Go.RowKit
theorem own : ownKnob Tryd.prog.godebug = none := by kernel_rfl
theorem laidOut : laidOutB Tryd.prog = true := by kernel_rfl
theorem gRunes : Tryd.prog.globalNamed "tessera/spans.runes" = some 1 := by kernel_rfl
theorem gNothing : Tryd.prog.globalNamed "tessera/spans.nothing" = some 0 := by kernel_rfl
theorem tRunes : (Tryd.prog.globals[1]?).map (·.type) = some 168 := by kernel_rfl
theorem tNothing : (Tryd.prog.globals[0]?).map (·.type) = some 27 := by kernel_rfl
/-- The condition's list. -/
abbrev laids : List (String × DataW Unit) := [("tessera/spans.runes", Rows.laid_tessera_spans_runes), ("tessera/spans.nothing", Rows.laid_tessera_spans_nothing)]
/-- The door's own heap meets the condition. -/
theorem door_met (os : Os) (args : Array Value) : laidMetH Tryd.prog laids ((World.doorLaid Tryd.prog 400 os).forCall (fun _ _ => 0) ⟨#[], args, []⟩).memory :=
  laidMetH_of_parts3 (fuel := 8) (laidMet_of_run' 8 (by kernel_rfl) (by kernel_rfl)) (by kernel_rfl) (by kernel_rfl)
theorem cells26 : Tryd.prog.cellsOf 27 = 2 := by kernel_rfl
theorem cellsOf21 : Tryd.prog.cellsOf 21 = 1 := by kernel_rfl
theorem und48 : Tryd.prog.underlying 168 = some (.array 2 27) := by kernel_rfl
set_option maxRecDepth 100000 in
/-- A span's two cells, off its datum. -/
theorem sp_trod {H : Type} {enc : TypeId × Value → H} {w : World} {base : Nat} {sp : Nat → Bool} {held : Bool} {fuel : Nat} {cs : List Value} {lo hi : Int} {p : List MemPlace}
    (h : DataW.trod enc Tryd.prog w base sp held fuel 27 cs = some (.agg [.lit (.int .i32 lo), .lit (.int .i32 hi)], p)) : cs = [.int .i32 lo, .int .i32 hi] := by
  obtain ⟨xs, n, rfl, hx, hl, hn, hel⟩ := DataW.trod_struct und26 h
  rw [cells26] at hl
  obtain ⟨c0, c1, rfl⟩ : ∃ c0 c1, cs = [c0, c1] := by
    match cs, hl with
    | [c0, c1], _ => exact ⟨c0, c1, rfl⟩
  have h0 := hel 0 fLo rfl
  have h1 := hel 1 fHi rfl
  simp only [Prod.mk.injEq, DataW.agg.injEq] at hx
  match xs, hn, hx, h0, h1 with
  | [x0, x1], _, hx, h0, h1 =>
    simp only [fLo, fHi, cellsOf21, List.drop_zero, List.take_succ_cons, List.take_zero, List.drop_succ_cons, List.getElem?_cons_zero, List.getElem?_cons_succ] at h0 h1
    obtain ⟨k0, e0, f0, _⟩ := DataW.trod_int Tryd.underlying21 h0
    obtain ⟨k1, e1, f1, _⟩ := DataW.trod_int Tryd.underlying21 h1
    subst f0; subst f1
    simp at hx e0 e1
    rw [e0, e1, ← hx.1.1, ← hx.1.2]
set_option maxRecDepth 100000 in
theorem of_laid {W : World} (h : laidMetH Tryd.prog laids W) : GL W := by
  rw [MakeChecks.laidMetH_plain _ _ _ (by kernel_rfl)] at h
  obtain ⟨ps, ⟨g0, t0, cs0, f0, p0, q0, hg0, ht0, hv0, hd0, ⟨g1, t1, cs1, f1, p1, q1, hg1, ht1, hv1, hd1, _, _⟩, _⟩, _, _⟩ := h
  obtain rfl := Option.some.inj (gRunes.symm.trans hg0)
  obtain rfl := Option.some.inj (gNothing.symm.trans hg1)
  obtain rfl := Option.some.inj (tRunes.symm.trans ht0)
  obtain rfl := Option.some.inj (tNothing.symm.trans ht1)
  have e1 := sp_trod hd1
  have c1 := World.var?_cell hg1 hv1
  obtain ⟨l1⟩ := cs1
  simp only at e1
  subst e1
  obtain ⟨xs, m1, rfl, hx1, hlen, hn3, hel⟩ := DataW.trod_array und48 hd0
  have h0 := hel 0 (by decide)
  have h1 := hel 1 (by decide)
  have c0 := World.var?_cell hg0 hv0
  obtain ⟨l0⟩ := cs0
  simp only [Prod.mk.injEq, DataW.agg.injEq, Rows.laid_tessera_spans_runes] at hx1
  simp only [cells26] at h0 h1
  match xs, hn3, hx1, h0, h1 with
  | [⟨d0, p0⟩, ⟨d1, p1⟩], _, hx1, h0, h1 =>
    simp only [List.map_cons, List.map_nil, List.cons.injEq, and_true] at hx1
    obtain ⟨⟨rfl, rfl⟩, -⟩ := hx1
    simp only [List.getElem?_cons_zero, List.getElem?_cons_succ, Nat.zero_mul, Nat.one_mul, List.drop_zero] at h0 h1
    have e2 := sp_trod h0
    have e3 := sp_trod h1
    rw [show Tryd.prog.cellsOf 168 = 4 by kernel_rfl] at hlen
    simp only at hlen
    match l0, hlen, e2, e3, c0 with
    | [v0, v1, v2, v3], _, e2, e3, c0 =>
      simp at e2 e3
      obtain ⟨rfl, rfl⟩ := e2
      obtain ⟨rfl, rfl⟩ := e3
      exact ⟨⟨c1 0, c1 1⟩, ⟨c0 0, c0 1⟩, ⟨c0 2, c0 3⟩⟩
end Go.Proofs.YtjbdhakogbolkaaDoor
end
section
/- A list of spans that came in. -/
namespace Go.Proofs.YtjbdhakogbolkaaDoor
open Go.ChangeShapes Go.WideShapes Go.ChangeAt Go.RowKit Go.Deep
section
variable {H : Type} {enc : TypeId × Value → H} {W : World} {x : DataW H × List MemPlace}
theorem open_spans {fuel : Nat} {a : Option Addr} {len cap : Nat} (h : DataW.trod enc Tryd.prog W 0 (fun _ => true) true fuel 28 (Value.slice a len cap).cells.toList = some x) :
    ∃ l : List Sp, len = l.length ∧ l.length ≤ cap ∧ cap ≤ 9223372036854775807 ∧ SPS W a l ∧ ∃ e s, x.1 = .slice e s ∧ e.length = l.length ∨ x.1 = .nil ∧ l = [] := by
  rcases open_slice_pairs Tryd.underlying28 und26 cells26 rfl rfl cellsOf21 cellsOf21 h with ⟨hcs, rfl⟩ | ⟨b, n, c, m, k, V0, V1, D0, D1, P0, P1, hcs, _, hl, hm, hmm, rfl, hel⟩
  · simp [Value.cells] at hcs
    obtain ⟨rfl, rfl, rfl⟩ := hcs
    exact ⟨[], rfl, Nat.le_refl _, by omega, .inl rfl, [], [], .inr ⟨rfl, rfl⟩⟩
  · simp [Value.cells] at hcs
    obtain ⟨rfl, rfl, rfl⟩ := hcs
    simp only [if_true] at hmm
    subst hmm
    unfold maxLen at hm
    have each : ∀ i, i < len → ∃ q : Sp, W.cell? (b.add (i * 2)) = some (.int .i32 q.lo) ∧ W.cell? (b.add (i * 2 + 1)) = some (.int .i32 q.hi) := by
      intro i hi
      obtain ⟨h0, h1, h2, h3⟩ := hel i (by omega)
      obtain ⟨n0, e0, _, _⟩ := DataW.trod_int Tryd.underlying21 h2
      obtain ⟨n1, e1, _, _⟩ := DataW.trod_int Tryd.underlying21 h3
      simp at e0 e1
      exact ⟨⟨n0, n1⟩, by rw [h0, e0], by rw [h1, e1]⟩
    haveI : Inhabited Sp := ⟨⟨0, 0⟩⟩
    obtain ⟨q, hq⟩ := choose_lt each
    refine ⟨(List.range len).map q, by simp, by simpa using hl, hm, ?_, _, _, .inl ⟨rfl, by simp⟩⟩
    by_cases h0 : len = 0
    · subst h0; exact .inl rfl
    · obtain ⟨blk, off, spot⟩ := b
      have hspot : spot = none := by simpa [Addr.add] using World.cell?_spot (hq 0 (by omega)).1
      subst hspot
      refine .inr ⟨blk, off, rfl, fun i y hy => ?_⟩
      have hi : i < len := by
        have := (List.getElem?_eq_some_iff.1 hy).1
        simpa using this
      rw [List.getElem?_map, List.getElem?_range hi] at hy
      obtain rfl : q i = y := by simpa using hy
      obtain ⟨h1, h2⟩ := hq i hi
      rw [add_plain] at h1 h2
      exact ⟨h1, by rw [Nat.add_assoc]; exact h2⟩
end
end Go.Proofs.YtjbdhakogbolkaaDoor
end
section
/- Models' data that came in. -/
namespace Go.Proofs.YtjbdhakogbolkaaDoor
open Go.ChangeShapes Go.WideShapes Go.ChangeAt Go.RowKit Go.Deep Go.Joins
def fd0 : Field := Field.mk "Words" 22 0 false "" "" 0
def fd1 : Field := Field.mk "Merges" 25 1 false "" "" 24
def fd2 : Field := Field.mk "Letters" 28 2 false "" "" 48
def fd3 : Field := Field.mk "Numbers" 28 3 false "" "" 72
def fd4 : Field := Field.mk "Spaces" 28 4 false "" "" 96
theorem undD : Tryd.prog.underlying 30 = some (.struct #[fd0, fd1, fd2, fd3, fd4]) := by kernel_rfl
theorem cellsD : Tryd.prog.cellsOf 30 = 5 := by kernel_rfl
theorem cellsS30 : Tryd.prog.cellsOf 28 = 1 := by kernel_rfl
theorem cellsS44 : Tryd.prog.cellsOf 22 = 1 := by kernel_rfl
theorem cellsS45 : Tryd.prog.cellsOf 25 = 1 := by kernel_rfl
theorem cells9 : Tryd.prog.cellsOf 9 = 1 := by kernel_rfl
theorem cells3 : Tryd.prog.cellsOf 3 = 1 := by kernel_rfl
theorem cellsMg : Tryd.prog.cellsOf 24 = 3 := by kernel_rfl
def fg0 : Field := Field.mk "Left" 3 0 false "" "" 0
def fg1 : Field := Field.mk "Right" 3 1 false "" "" 8
def fg2 : Field := Field.mk "Id" 3 2 false "" "" 16
theorem undMg : Tryd.prog.underlying 24 = some (.struct #[fg0, fg1, fg2]) := by kernel_rfl
section
variable {H : Type} {enc : TypeId × Value → H} {W : World} {x : DataW H × List MemPlace}
theorem one_slice {t e : TypeId} (ht : Tryd.prog.underlying t = some (.slice e)) {fuel : Nat} {v : Value} {y : DataW H × List MemPlace} (h : DataW.trod enc Tryd.prog W 0 (fun _ => true) true fuel t [v] = some y) : ∃ a n c, v = .slice a n c := by
  rcases DataW.trod_slice ht h with ⟨h1, _⟩ | ⟨a, n, c, _, _, _, _, h1, _⟩
  · exact ⟨none, 0, 0, by simpa using h1⟩
  · exact ⟨some a, n, c, by simpa using h1⟩
/-- What a reading says of a list's weight. -/
def WtN (y : DataW H) (n : Nat) : Prop := ∃ e s, y = .slice e s ∧ e.length = n ∨ y = .nil ∧ n = 0
theorem open_words {fuel : Nat} {a : Option Addr} {len cap : Nat} (h : DataW.trod enc Tryd.prog W 0 (fun _ => true) true fuel 22 [Value.slice a len cap] = some x) :
    ∃ l : List ByteArray, len = l.length ∧ l.length ≤ cap ∧ cap ≤ 9223372036854775807 ∧ WSP W a l ∧ WtN x.1 l.length := by
  rcases open_strs Tryd.underlying22 Tryd.underlying9 cells9 h with ⟨hcs, rfl⟩ | ⟨b, n, c, m, Sx, hcs, _, hl, hm, hmm, rfl, hel⟩
  · simp at hcs
    obtain ⟨rfl, rfl, rfl⟩ := hcs
    exact ⟨[], rfl, Nat.le_refl _, by omega, .inl rfl, [], [], .inr ⟨rfl, rfl⟩⟩
  · simp at hcs
    obtain ⟨rfl, rfl, rfl⟩ := hcs
    simp only [if_true] at hmm
    subst hmm
    unfold maxLen at hm
    refine ⟨(List.range len).map Sx, by simp, by simpa using hl, hm, ?_, _, _, .inl ⟨rfl, by simp⟩⟩
    by_cases h0 : len = 0
    · subst h0; exact .inl rfl
    · obtain ⟨blk, off, spot⟩ := b
      have hspot : spot = none := by simpa [Addr.add] using World.cell?_spot (hel 0 (by omega)).1
      subst hspot
      refine .inr ⟨blk, off, rfl, fun i y hy => ?_⟩
      have hi : i < len := by
        have := (List.getElem?_eq_some_iff.1 hy).1
        simpa using this
      rw [List.getElem?_map, List.getElem?_range hi] at hy
      obtain rfl : Sx i = y := by simpa using hy
      have h1 := (hel i (by omega)).1
      rw [add_plain] at h1
      exact h1
set_option maxRecDepth 100000 in
theorem open_merges {fuel : Nat} {a : Option Addr} {len cap : Nat} (h : DataW.trod enc Tryd.prog W 0 (fun _ => true) true fuel 25 [Value.slice a len cap] = some x) :
    ∃ l : List Mg, len = l.length ∧ l.length ≤ cap ∧ cap ≤ 9223372036854775807 ∧ MSP W a l ∧ MWf l ∧ WtN x.1 l.length := by
  rcases open_slice Tryd.underlying25 h with ⟨hcs, rfl⟩ | ⟨b, n, c, m, k, D, Pl, hcs, _, hl, hm, hmm, rfl, hel⟩
  · simp at hcs
    obtain ⟨rfl, rfl, rfl⟩ := hcs
    exact ⟨[], rfl, Nat.le_refl _, by omega, .inl rfl, fun i x h => by simp at h, [], [], .inr ⟨rfl, rfl⟩⟩
  · simp at hcs
    obtain ⟨rfl, rfl, rfl⟩ := hcs
    simp only [if_true] at hmm
    subst hmm
    unfold maxLen at hm
    have each : ∀ i, i < len → ∃ q : Mg, W.cell? (b.add (i * 3)) = some (.int .i64 q.l) ∧ W.cell? (b.add (i * 3 + 1)) = some (.int .i64 q.r) ∧ W.cell? (b.add (i * 3 + 2)) = some (.int .i64 q.i) ∧ W64 q.l ∧ W64 q.r ∧ W64 q.i := by
      intro i hi
      obtain ⟨cs', h1, h2⟩ := hel i (by omega)
      rw [cellsMg] at h1
      obtain ⟨_, hlen, hcell⟩ := World.cells?_some h1
      obtain ⟨xs, k', hk, hxy, _, hxl, hf⟩ := DataW.trod_struct undMg h2
      match xs, hxl, cs', hlen with
      | [y0, y1, y2], _, [v0, v1, v2], _ =>
        have g0 := hf 0 fg0 rfl
        have g1 := hf 1 fg1 rfl
        have g2 := hf 2 fg2 rfl
        simp [fg0, fg1, fg2, cells3] at g0 g1 g2
        have e0 := hcell 0 (by omega)
        have e1 := hcell 1 (by omega)
        have e2 := hcell 2 (by omega)
        rw [add_add] at e0 e1 e2
        obtain ⟨n0, q0, -, w0⟩ := DataW.trod_int Tryd.underlying3 g0
        obtain ⟨n1, q1, -, w1⟩ := DataW.trod_int Tryd.underlying3 g1
        obtain ⟨n2, q2, -, w2⟩ := DataW.trod_int Tryd.underlying3 g2
        simp at q0 q1 q2
        subst q0 q1 q2
        simp [Lit.wf, IntKind.min, IntKind.max, IntKind.signed, IntKind.bits] at w0 w1 w2
        exact ⟨⟨n0, n1, n2⟩, by simpa using e0, by simpa using e1, by simpa using e2, by unfold W64; omega, by unfold W64; omega, by unfold W64; omega⟩
    haveI : Inhabited Mg := ⟨⟨0, 0, 0⟩⟩
    obtain ⟨q, hq⟩ := choose_lt each
    refine ⟨(List.range len).map q, by simp, by simpa using hl, hm, ?_, ?_, _, _, .inl ⟨rfl, by simp⟩⟩
    · by_cases h0 : len = 0
      · subst h0; exact .inl rfl
      · obtain ⟨blk, off, spot⟩ := b
        have hspot : spot = none := by simpa [Addr.add] using World.cell?_spot (hq 0 (by omega)).1
        subst hspot
        refine .inr ⟨blk, off, rfl, fun i y hy => ?_⟩
        have hi : i < len := by
          have := (List.getElem?_eq_some_iff.1 hy).1
          simpa using this
        rw [List.getElem?_map, List.getElem?_range hi] at hy
        obtain rfl : q i = y := by simpa using hy
        obtain ⟨h1, h2, h3, -⟩ := hq i hi
        rw [add_plain] at h1 h2 h3
        exact ⟨h1, by rw [Nat.add_assoc]; exact h2, by rw [Nat.add_assoc]; exact h3⟩
    · intro i y hy
      have hi : i < len := by
        have := (List.getElem?_eq_some_iff.1 hy).1
        simpa using this
      rw [List.getElem?_map, List.getElem?_range hi] at hy
      obtain rfl : q i = y := by simpa using hy
      exact (hq i hi).2.2.2
set_option maxRecDepth 100000 in
theorem open_mdata {fuel : Nat} {v : Value} (hv : Value.okWide Tryd.prog W .any 0 30 v) (h : DataW.trod enc Tryd.prog W 0 (fun _ => true) true fuel 30 v.cells.toList = some x) :
    ∃ aw cw am cm a ca b cb c cc, ∃ (ws : List ByteArray) (ms : List Mg) (A B C : List Sp), v = .agg #[.slice aw ws.length cw, .slice am ms.length cm, .slice a A.length ca, .slice b B.length cb, .slice c C.length cc] ∧ WSP W aw ws ∧ MSP W am ms ∧ MWf ms ∧ Lst W a ca A ∧ Lst W b cb B ∧ Lst W c cc C ∧
      ∃ y0 y1 y2 y3 y4, x.1 = .agg [y0, y1, y2, y3, y4] ∧ WtN y0 ws.length ∧ WtN y1 ms.length ∧ WtN y2 A.length ∧ WtN y3 B.length ∧ WtN y4 C.length := by
  obtain ⟨cs, rfl, hsz⟩ := okWide_struct undD hv
  rw [cellsD] at hsz
  obtain ⟨v0, v1, v2, v3, v4, rfl⟩ : ∃ v0 v1 v2 v3 v4, cs = #[v0, v1, v2, v3, v4] := by
    obtain ⟨l⟩ := cs
    have hl : l.length = 5 := hsz
    cases l with
    | nil => simp at hl
    | cons v0 l => cases l with
      | nil => simp at hl
      | cons v1 l => cases l with
        | nil => simp at hl
        | cons v2 l => cases l with
          | nil => simp at hl
          | cons v3 l => cases l with
            | nil => simp at hl
            | cons v4 l => cases l with
              | nil => exact ⟨_, _, _, _, _, rfl⟩
              | cons _ _ => simp at hl
  obtain ⟨xs, n, rfl, hx, -, hn, hel⟩ := DataW.trod_struct undD h
  have h0 := hel 0 fd0 rfl
  have h1 := hel 1 fd1 rfl
  have h2 := hel 2 fd2 rfl
  have h3 := hel 3 fd3 rfl
  have h4 := hel 4 fd4 rfl
  simp only [Value.cells, fd0, fd1, fd2, fd3, fd4, cellsS30, cellsS44, cellsS45, List.drop_zero, List.drop_succ_cons, List.take_succ_cons, List.take_zero] at h0 h1 h2 h3 h4
  have hn : xs.length = 5 := hn
  have g0 : xs[0]? = some xs[0] := List.getElem?_eq_getElem (by omega)
  have g1 : xs[1]? = some xs[1] := List.getElem?_eq_getElem (by omega)
  have g2 : xs[2]? = some xs[2] := List.getElem?_eq_getElem (by omega)
  have g3 : xs[3]? = some xs[3] := List.getElem?_eq_getElem (by omega)
  have g4 : xs[4]? = some xs[4] := List.getElem?_eq_getElem (by omega)
  rw [g0] at h0
  rw [g1] at h1
  rw [g2] at h2
  rw [g3] at h3
  rw [g4] at h4
  obtain ⟨s0, n0, c0, rfl⟩ := one_slice Tryd.underlying22 h0
  obtain ⟨s1, n1, c1, rfl⟩ := one_slice Tryd.underlying25 h1
  obtain ⟨a, na, ca, rfl⟩ := one_slice Tryd.underlying28 h2
  obtain ⟨b, nb, cb, rfl⟩ := one_slice Tryd.underlying28 h3
  obtain ⟨c, nc, cc, rfl⟩ := one_slice Tryd.underlying28 h4
  obtain ⟨ws, rfl, -, -, w3, ew⟩ := open_words h0
  obtain ⟨ms, rfl, -, -, m3, m4, em⟩ := open_merges h1
  obtain ⟨A, rfl, a1, a2, a3, ea⟩ := open_spans (a := a) (len := na) (cap := ca) h2
  obtain ⟨B, rfl, b1, b2, b3, eb⟩ := open_spans (a := b) (len := nb) (cap := cb) h3
  obtain ⟨C, rfl, c1', c2, c3, ec⟩ := open_spans (a := c) (len := nc) (cap := cc) h4
  have wt : ∀ {y : DataW H} {l : List Sp}, (∃ e s, y = .slice e s ∧ e.length = l.length ∨ y = .nil ∧ l = []) → WtN y l.length := fun h => by
    obtain ⟨e, s, ⟨h1, h2⟩ | ⟨h1, h2⟩⟩ := h
    · exact ⟨e, s, .inl ⟨h1, h2⟩⟩
    · exact ⟨e, s, .inr ⟨h1, by rw [h2]; rfl⟩⟩
  refine ⟨s0, c0, s1, c1, a, ca, b, cb, c, cc, ws, ms, A, B, C, rfl, w3, m3, m4, ⟨a1, a2, a3⟩, ⟨b1, b2, b3⟩, ⟨c1', c2, c3⟩, (xs[0]).1, (xs[1]).1, (xs[2]).1, (xs[3]).1, (xs[4]).1, ?_, ew, em, wt ea, wt eb, wt ec⟩
  rw [hx]
  simp only
  congr 1
  apply List.ext_getElem (by simpa using hn)
  intro i hi hi'
  have hi5 : i < 5 := by simpa using hi'
  rcases (show i = 0 ∨ i = 1 ∨ i = 2 ∨ i = 3 ∨ i = 4 by omega) with rfl | rfl | rfl | rfl | rfl <;> simp
theorem sized_partN {ts : List TypeId} {ds : List (DataW H)} (h : (DataW.weightsEach Tryd.prog ts ds).all (· ≤ reachBytes) = true) {j k q el : Nat} {t : TypeId} {y : DataW H} {ys : List (DataW H)} {n : Nat} (ht : ts[j]? = some 30) (hd : ds[j]? = some (.agg ys)) (hk : ([fd0, fd1, fd2, fd3, fd4].map (·.type))[k]? = some t) (hu : Tryd.prog.underlying t = some (.slice el)) (hby : Tryd.prog.bytesOf el = q) (hy : ys[k]? = some y) (hw : WtN y n) : n * q ≤ reachBytes := by
  obtain ⟨e, s, ⟨rfl, h2⟩ | ⟨-, h2⟩⟩ := hw
  · have h1 := List.all_eq_true.1 h _ (DataW.weights_mem_each ht hd ((e.length + s.length) * Tryd.prog.bytesOf el) (by
      have h3 := DataW.weights_mem_each (P := Tryd.prog) hk hy ((e.length + s.length) * Tryd.prog.bytesOf el) (by simp [DataW.weights, hu])
      simpa [DataW.weights, undD, fd0, fd1, fd2, fd3, fd4] using h3))
    rw [hby] at h1
    have h1 : (e.length + s.length) * q ≤ reachBytes := by simpa using h1
    rw [← h2]
    exact Nat.le_trans (Nat.mul_le_mul_right _ (Nat.le_add_right _ _)) h1
  · rw [h2]; simp
theorem sizes_data {ts : List TypeId} {ds : List (DataW H)} (h : (DataW.weightsEach Tryd.prog ts ds).all (· ≤ reachBytes) = true) {j : Nat} {y0 y1 y2 y3 y4 : DataW H} {n0 n1 n2 n3 n4 : Nat} (ht : ts[j]? = some 30) (hd : ds[j]? = some (.agg [y0, y1, y2, y3, y4])) (w0 : WtN y0 n0) (w1 : WtN y1 n1) (w2 : WtN y2 n2) (w3 : WtN y3 n3) (w4 : WtN y4 n4) :
    n0 ≤ 8796093022208 ∧ n1 ≤ 5864062014805 ∧ n2 ≤ 17592186044416 ∧ n3 ≤ 17592186044416 ∧ n4 ≤ 17592186044416 := by
  have h0 := sized_partN (k := 0) h ht hd rfl Tryd.underlying22 (show Tryd.prog.bytesOf 9 = 16 by kernel_rfl) rfl w0
  have h1 := sized_partN (k := 1) h ht hd rfl Tryd.underlying25 (show Tryd.prog.bytesOf 24 = 24 by kernel_rfl) rfl w1
  have h2 := sized_partN (k := 2) h ht hd rfl Tryd.underlying28 (show Tryd.prog.bytesOf 27 = 8 by kernel_rfl) rfl w2
  have h3 := sized_partN (k := 3) h ht hd rfl Tryd.underlying28 (show Tryd.prog.bytesOf 27 = 8 by kernel_rfl) rfl w3
  have h4 := sized_partN (k := 4) h ht hd rfl Tryd.underlying28 (show Tryd.prog.bytesOf 27 = 8 by kernel_rfl) rfl w4
  unfold reachBytes at h0 h1 h2 h3 h4
  omega
end
end Go.Proofs.YtjbdhakogbolkaaDoor
end
