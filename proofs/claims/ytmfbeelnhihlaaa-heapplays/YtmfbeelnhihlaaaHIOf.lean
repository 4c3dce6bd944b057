/- heap's Of and New: their contracts. -/
import Derived.Test.YtmfbeelnhihlaaaHPRoomy
import Derived.Test.YtmfbeelnhihlaaaHIPush
namespace Go.Proofs.Ytmfbeelnhihlaaa.HI
open Go.RowKit Go.Joins Go.Sort
set_option linter.unusedVariables false
set_option linter.unusedSimpArgs false
set_option maxRecDepth 100000
/-- The slice that begins at a holds the numbers l. -/
def SPS (w : World) (a : Option Addr) (l : List El) : Prop :=
  l = [] ∨ ∃ b off, a = some ⟨b, off, none⟩ ∧ ∀ i x, l[i]? = some x → w.cell? ⟨b, off + i, none⟩ = some (.int .i64 x)
theorem SPS.cells {w : World} {x : Addr} {l : List El} (h : SPS w (some x) l) : ∀ j u, (l.flatMap cellsE)[j]? = some u → w.cell? (x.add j) = some u := by
  intro j u hu
  rcases h with rfl | ⟨b, off, hx, hc⟩
  · simp at hu
  · obtain rfl := Option.some.inj hx
    have hj : j < (l.flatMap cellsE).length := (List.getElem?_eq_some_iff.1 hu).1
    rw [flatE_length] at hj
    have hi : l[j]? = some l[j] := List.getElem?_eq_getElem (by omega)
    have := flatE_get l j _ hi 0 (by omega)
    rw [show j * 1 + 0 = j by omega, hu] at this
    rw [cell_add, hc _ _ hi, this]
    rfl
theorem SPS.below {w w' : World} {a : Option Addr} {l : List El} (h : SPS w a l) (hb : Below w.heap.size w w') : SPS w' a l := by
  rcases h with h | ⟨b, off, rfl, hc⟩
  · exact .inl h
  · exact .inr ⟨b, off, rfl, fun i x hx => (hb.cell (World.block_lt_of_cell? w _ (hc i x hx))).trans (hc i x hx)⟩
theorem eq_nil_none (n c : Nat) (W : World) : (binOp BinOp.eql 31 (.slice none n c) (.slice none 0 0)).run Try.prog W = .ok (.bool true) W := by kernel_rfl
theorem eq_nil_some (x : Addr) (n c : Nat) (W : World) : (binOp BinOp.eql 31 (.slice (some x) n c) (.slice none 0 0)).run Try.prog W = .ok (.bool false) W := by kernel_rfl
theorem clone_any (a : Option Addr) (cap : Nat) (l : List El) (w : World) (hlen : l.length ≤ 1099511627776) (h : SPS w a l) :
    Calls Try.prog 30 #[.slice a l.length cap] w fun e w' => ∃ v, e = .returned v ∧ RowE w' w.heap.size v l ∧ Below w.heap.size w w' := by
  cases a with
  | none =>
    have hl : l = [] := by
      rcases h with h | ⟨b, off, h, _⟩
      · exact h
      · cases h
    subst hl
    have he := eq_nil_none 0 cap
    simp only [List.length_nil]
    go_enter Try.func30, Try.ntmps30
    go_wp2_with fail
    go_ret
    exact ⟨_, rfl, World.ownsRow_nil _ _ _ _, Below.refl _ _⟩
  | some x =>
    obtain ⟨i0, hi, hz0, hz1, hz2⟩ := info_parts infoE
    have he := eq_nil_some x l.length cap
    have hb : Below w.heap.size w (w.alloc (.cells #[] 3)) := (Below.refl _ w).alloc (Nat.le_refl _) _
    have hown : (w.alloc (.cells #[] 3)).ownsRow w.heap.size 3 1 (.slice (some ⟨w.heap.size, 0, none⟩) 0 0) 0 [] :=
      ⟨rfl, .inr ⟨w.heap.size, 0, #[], rfl, Nat.le_refl _, heap_alloc_new w _, Nat.le_refl _, by simp [maxLen], rfl, rfl⟩⟩
    have hcs := (h.below hb).cells
    have hcs2 := hcs
    obtain ⟨v', w', h1, h2, h3, h4⟩ := run_append_own (P := Try.prog) (w.alloc (.cells #[] 3)) w.heap.size 31 31 3 i0 _ 1 8 Try.underlying31 hi hz0 hz1 hz2 rfl (by decide) _ 0 [] hown x l.length cap (l.flatMap cellsE) (flatE_length l) hcs2 (fun v hv => by
      obtain ⟨y, _, hy⟩ := List.mem_flatMap.1 hv
      exact cellsE_one y v hy) (by unfold maxLen; omega) (by omega) (by simp)
    rw [Nat.zero_add, List.nil_append] at h2
    have hB : Below w.heap.size w w' := hb.grown h3 (by simp) (fun k hk => by
      have : k = w.heap.size := by simpa [Value.ownBlock] using hk.symm
      omega)
    clear hown h3 h4 hb h hcs hcs2
    go_enter Try.func30, Try.ntmps30
    go_wp2_with (at_builtin; refine wpList_append_run rfl (.tmp 5) (.tmp 6) 31 31 rfl _ _ rfl rfl _ w' h1 ?_)
    go_ret
    exact ⟨_, rfl, h2, hB⟩
theorem grownBy_of_below {a b : World} {row : Option Nat} (h : Below a.heap.size a b) : a.grownBy b row := ⟨h.os, h.tape, h.output, h.size, fun k hk _ => h.block k hk⟩
set_option maxHeartbeats 1000000 in
theorem of_any (a : Option Addr) (cap : Nat) (L : List El) (w : World) (hlen : L.length ≤ 1099511627776) (h : SPS w a L) :
    Calls Try.prog 23 #[lessV, .slice a L.length cap] w fun e w' => ∃ g v, e = .returned (.pointer (some ⟨g, 0, none⟩)) ∧ HeapAt w' w.heap.size g v (ofF keyE L) ∧ Below w.heap.size w w' := by
  have HC := clone_any a cap L w hlen h
  obtain ⟨R, hR⟩ : ∃ R, R = ofF keyE L := ⟨_, rfl⟩
  have HR : Hid (heapF keyE (L.length / 2) L = R) := by rw [hR]; rfl
  rw [← hR]
  clear hR h
  obtain ⟨n, hn⟩ : ∃ n, n = L.length := ⟨_, rfl⟩
  have HN : Hid (n = L.length) := hn
  rw [← hn] at HC hlen ⊢
  clear hn
  have hq : Int.tdiv (n : Int) 2 = ((n / 2 : Nat) : Int) := (Int.ofNat_tdiv _ _).symm
  obtain ⟨m, hm⟩ : ∃ m, m = n / 2 := ⟨_, rfl⟩
  rw [← hm] at hq
  have HM : Hid (m = n / 2) := hm
  have hmn : m ≤ 1099511627776 := by omega
  have hmn2 : m ≤ n := by omega
  clear hm
  unfold lessV
  go_enter Try.func23, Try.ntmps23
  go_wp2_with fail
  refine HC.mono ?_
  rintro e w1 ⟨v, rfl, hrow, hb1⟩
  clear HC
  have hv := World.ownsRow.lt hrow
  have hb2 : Below w.heap.size w (w1.alloc (.cells #[.func (.func 7) #[] #[], v] 48)) := hb1.alloc hb1.size _
  have hs1 := hb1.size
  obtain ⟨g, hg⟩ : ∃ g, g = w1.heap.size := ⟨_, rfl⟩
  have HG : HeapAt (w1.alloc (.cells #[.func (.func 7) #[] #[], v] 48)) w.heap.size g v L := by
    rw [hg]
    exact ⟨hs1, heap_alloc_new w1 _, hrow.below ((Below.refl _ _).alloc (Nat.le_refl _) _), fun e => by have := hv _ e; omega⟩
  obtain ⟨aa, q, rfl⟩ : ∃ aa q, v = .slice aa n q := by
    rcases ownsRow_forms hrow with ⟨rfl, h0⟩ | ⟨b, q, rfl⟩
    · exact ⟨none, 0, by rw [HN.out, h0]⟩
    · exact ⟨some ⟨b, 0, none⟩, q, by rw [HN.out]⟩
  clear hv hrow
  go_wp2_with fail
  rw [← hg]
  refine wp_named fun X hX => ?_
  rw [← hX] at HG hb2
  have hXs : w.heap.size ≤ X.heap.size := hb2.size
  clear hX hg hb1 hs1
  go_loopw [6] (fun u wr => ∃ (k : Nat) (M : List El), k ≤ m ∧ u = .int .i64 ((k : Nat) - 1 : Int) ∧ M.length = n ∧ heapF keyE k M = R ∧ HeapAt wr w.heap.size g (.slice aa n q) M ∧ Below w.heap.size w wr) (fun u _ => (intOf u + 1).toNat)
  case atStart => exact ⟨m, L, Nat.le_refl _, rfl, HN.out.symm, by rw [← HR.out, HM.out, HN.out], HG, hb2⟩
  case round =>
    obtain ⟨k, M, hk, rfl, hM, hF, hA, hbr⟩ := hrel
    have HML : Hid (M.length = n) := hM
    have HF : Hid (heapF keyE k M = R) := hF
    clear hM hF
    cases k with
    | zero =>
      rw [show (((0 : Nat) : Int) - 1) = -1 from rfl]
      go_wp2_with fail
      go_ret
      refine ⟨g, .slice aa n q, rfl, ?_, hbr⟩
      have := HF.out
      unfold heapF at this
      rw [← this]
      exact hA
    | succ k =>
      rw [show (((k + 1 : Nat) : Int) - 1) = (k : Int) by omega]
      have hkn : k < n := by have := HM.out; omega
      obtain ⟨b, rfl⟩ : ∃ b, aa = some ⟨b, 0, none⟩ := by
        rcases ownsRow_forms hA.row with ⟨h1, h0⟩ | ⟨b, q', h1⟩
        · have := HML.out; omega
        · cases h1; exact ⟨b, rfl⟩
      have hgb : g ≠ b := fun e => hA.ne (by rw [e]; rfl)
      have c1 : wr.cell? ⟨g, 1, none⟩ = some (.slice (some ⟨b, 0, none⟩) n q) := by rw [cell_of_row wr g 1 _ _ _ hA.at_]; rfl
      have d1 : decide ((0 : Int) ≤ (k : Int)) = true := decide_eq_true (by omega)
      have HS := sink_any g b q w.heap.size _ M k wr hA.at_ (by rw [HML.out]; exact hA.row) hgb (by rw [HML.out]; exact hlen) (by rw [HML.out]; omega)
      rw [HML.out] at HS
      obtain ⟨M2, hM2⟩ : ∃ M2, M2 = sinkF keyE n M k := ⟨_, rfl⟩
      rw [← hM2] at HS
      have HM2 : Hid (M2 = sinkF keyE n M k) := hM2
      clear hM2
      have hlow := World.ownsRow.lt hA.row b rfl
      have hlow2 := hA.low
      go_wp2_with fail
      refine HS.mono ?_
      rintro e w2 ⟨rfl, hrw, hgr⟩
      have hA2 : HeapAt w2 w.heap.size g (.slice (some ⟨b, 0, none⟩) n q) M2 := ⟨hlow2, hA.at_.grown hgr hgb, hrw, hA.ne⟩
      have hb3 : Below w.heap.size w w2 := hbr.grown hgr hbr.size (fun k hk => by cases hk; exact hlow.1)
      clear HS hA c1 hrw hgr hbr hlow
      go_wp2_with fail
      refine ⟨⟨k, M2, by omega, rfl, by rw [HM2.out, sinkF_length]; exact HML.out, ?_, hA2, hb3⟩, by simp only [intOf]; omega⟩
      have := HF.out
      unfold heapF at this
      rw [HML.out, ← HM2.out] at this
      exact this
theorem new_any (w : World) :
    Calls Try.prog 6 #[lessV] w fun e w' => ∃ g v, e = .returned (.pointer (some ⟨g, 0, none⟩)) ∧ HeapAt w' w.heap.size g v [] ∧ Below w.heap.size w w' := by
  have HO := of_any none 0 [] w (by simp) (.inl rfl)
  unfold lessV at HO ⊢
  rw [List.length_nil] at HO
  go_enter Try.func6, Try.ntmps6
  go_wp2_with fail
  refine HO.mono ?_
  rintro e w1 ⟨g, v, rfl, hA, hb⟩
  clear HO
  go_wp2_with fail
  go_ret
  exact ⟨g, v, rfl, hA, hb⟩
end Go.Proofs.Ytmfbeelnhihlaaa.HI
