import Derived.Test.YtjbdhakogbolkabDoorJ16
import Derived.Test.YtjbdhakogbolkabDoorJ9
import Derived.Test.YtjbdhakogbolkabDoorJ4
import Derived.Test.YtjbdhakogbolkabDoorJ2
import Derived.Laws.StructEq
section
/- bpe's joined: its contract. -/
namespace Go.Proofs.YtjbdhakogbolkabDoor
open Go.RowKit Go.Shelf Go.Lib
open Go.Joins Go.Sort
attribute [local go_sem] Oper.semAt_some
set_option linter.unusedVariables false
set_option linter.unusedSimpArgs false
set_option maxRecDepth 100000
theorem KpP.refl {M0 lo hi : Nat} (A : World) : KpP M0 lo hi A A := ⟨rfl, rfl, rfl, Nat.le_refl _, fun _ _ => rfl, fun _ _ _ _ h => h⟩
theorem RowAt.putObj {base hi r mg ib cg cb hg : Nat} {ia : Option Addr} {ic n : Nat} {hv : Value} {inn : Nat → Bool} {ids : Nat → Int} {cnt : Int} {H : List HQ.El} {w : World} (h : RowAt w base r mg ib cg cb hg ia ic n hv inn ids cnt H) {b : Nat} {o o' : Obj} (hb : hi ≤ b) (hh : r < hi ∧ ib < hi ∧ cg < hi ∧ cb < hi ∧ hg < hi) (ho : w.heap[b]? = some o) (hc : o.isCells = false) : RowAt (w.putObj b o') base r mg ib cg cb hg ia ic n hv inn ids cnt H :=
  h.away hb hh (fun e => by
    obtain ⟨cs, h2⟩ := h.pairs e
    rw [ho] at h2
    cases h2
    cases hc) (fun k hk => World.putObj_heap_other hk)
/-- joins: its contract, for a range over it. -/
theorem joins_G (n0 : Nat) (hn0 : 1 ≤ n0) (Bx base hi r mg ib cg cb hg lo : Nat) (ia : Option Addr) (ic n : Nat) (hv0 : Value) (s0 : StJ) (H0 : List HQ.El) (ws : List ByteArray) (ms : List Mg) (A B C : List Sp) (wM : World)
    (hMI : ∀ l r k i, mergeM ms l r = some (k, i) → W64 i) (hM : ModelAt wM lo mg ws ms A B C) (hMb : wM.heap.size ≤ base)
    (hib : base ≤ ib) (hh : r < hi ∧ ib < hi ∧ cg < hi ∧ cb < hi ∧ hg < hi) (hBx0 : base ≤ Bx ∧ Bx < hi) (hBxn : Bx ≠ ib ∧ Bx ≠ cg ∧ Bx ≠ cb ∧ Bx ≠ hg)
    (w : World) (hhi : hi ≤ w.heap.size) (hBox : w.heap[Bx]? = some (.cells #[.pointer (some ⟨r, 0, none⟩)] 56 (0, 0))) (hMw : Below wM.heap.size wM w)
    (hR : RowAt w base r mg ib cg cb hg ia ic n hv0 s0.1 s0.2 (CH.cntG s0.1 n : Nat) H0) (hI : ∀ k, k < n → W64 (s0.2 k)) (hH : HPf HQ.keyE H0 0) (hC : Cov ms n s0 H0) (hlen : H0.length + 3 * CH.cntG s0.1 n + 9 ≤ 1099511627776) :
    SeqG Fence.wide n0 Tryd.prog 51 #[.pointer (some ⟨Bx, 0, none⟩)] (fun x : HQ.El => #[HQ.valE x]) (fun _ _ => RlP base hi) (fun _ => KpP wM.heap.size base hi) (fun pre x => IsP ms n (stJ s0 pre) x) (fun xs W' => NoP ms n (stJ s0 xs) ∧ ∃ hv H, RowAt W' base r mg ib cg cb hg ia ic n hv (stJ s0 xs).1 (stJ s0 xs).2 (CH.cntG (stJ s0 xs).1 n : Nat) H) (fun _ => True) w := by
  intro l J Jx W hW hJ hJx hY h0
  refine (joins1_in n0 hn0 l Bx W.heap.size base hi r mg ib cg cb hg lo ia ic n hv0 s0 H0 ws ms A B C wM (J W.heap.size) (Jx W.heap.size) hMI hM hMb hib hh hBx0 hBxn
    (fun pre X Y h1 h2 => hJ _ _ _ _ h1 h2) (fun pre x W1 h1 h2 h3 => hY _ pre x W1 (Nat.le_refl _) h1 h2 h3) W rfl (Nat.le_trans hhi hW.size) ((hW.block Bx (Array.getElem?_eq_some_iff.1 hBox).1).trans hBox) (hMw.trans (hW.mono hMw.size)) (hR.below hW) hI hH hC hlen (h0 _ (Nat.le_refl _))).mono ?_
  rintro e W' ⟨hv, ⟨xs, h1, h2⟩ | ⟨pre, h1⟩⟩
  · exact ⟨hv, _, Nat.le_refl _, .inl ⟨xs, h1, h2⟩⟩
  · exact ⟨hv, _, Nat.le_refl _, .inr ⟨pre, trivial, h1⟩⟩
def actJ (a : Act) (x : HQ.El) : Act := { tmps := a.tmps.setIfInBounds 5 (HQ.valE x), defers := [] }
set_option maxHeartbeats 4000000 in
theorem bjoined_any (base r mg ib cg cb hg lo : Nat) (ia : Option Addr) (ic n : Nat) (hv : Value) (s0 : StJ) (H0 : List HQ.El) (ws : List ByteArray) (ms : List Mg) (A B C : List Sp) (wM w : World)
    (hMI : ∀ l r k i, mergeM ms l r = some (k, i) → W64 i) (hM : ModelAt wM lo mg ws ms A B C) (hMb : wM.heap.size ≤ base)
    (hib : base ≤ ib) (hh : r < w.heap.size ∧ ib < w.heap.size ∧ cg < w.heap.size ∧ cb < w.heap.size ∧ hg < w.heap.size) (hMw : Below wM.heap.size wM w)
    (hR : RowAt w base r mg ib cg cb hg ia ic n hv s0.1 s0.2 (CH.cntG s0.1 n : Nat) H0) (hI : ∀ k, k < n → W64 (s0.2 k)) (hH : HPf HQ.keyE H0 0) (hC : Cov ms n s0 H0) (hlen : H0.length + 3 * CH.cntG s0.1 n + 9 ≤ 1099511627776) :
    Calls Tryd.prog 18 #[.pointer (some ⟨r, 0, none⟩)] w fun e w' => ∃ v l st, e = .returned v ∧ RowN w' w.heap.size v l ∧ JR ms (vwJ s0.1 n s0.2) st l ∧ Below base w w' ∧ v.ownBlock ≠ none := by
  refine (callsIn_wide (n := 3)).1 ?_
  have hbw : base ≤ w.heap.size := by omega
  refine callsIn_of_wp_marks Tryd.func18 rfl trivial ?_ rfl
  simp only [Tryd.ntmps18, List.size_toArray, List.length_cons, List.length_nil, Nat.reduceAdd, Nat.reduceSub, Array.replicate_succ, Array.replicate_zero, List.push_toArray, List.append_toArray, List.nil_append, List.cons_append]
  gi_wp2_with fail
  refine ⟨trivial, (joins_in _ r w).mono ?_⟩
  rintro e w1 ⟨rfl, hw1⟩
  have hb1 : Below w.heap.size w w1 := by rw [hw1]; exact (Below.refl _ w).alloc (Nat.le_refl _) _
  have hs1 : w1.heap.size = w.heap.size + 1 := by rw [hw1]; simp
  have hx1 : w1.heap[w.heap.size]? = some (.cells #[.pointer (some ⟨r, 0, none⟩)] 56 (0, 0)) := by rw [hw1]; exact heap_alloc_new w _
  obtain ⟨z, hz⟩ : ∃ z, z = w.heap.size := ⟨_, rfl⟩
  have HZ : Hid (z = w.heap.size) := hz
  rw [← hz] at hs1 hx1 ⊢
  have hh1 : r < z + 1 ∧ ib < z + 1 ∧ cg < z + 1 ∧ cb < z + 1 ∧ hg < z + 1 := by omega
  have hG := joins_G 2 (by omega) z base (z + 1) r mg ib cg cb hg lo ia ic n hv s0 H0 ws ms A B C wM hMI hM hMb hib hh1 (by omega) (by omega) w1 (by omega) hx1 (hMw.trans (hb1.mono hMw.size)) (hR.below hb1) hI hH hC hlen
  clear hw1 hz
  gi_wp2_with fail
  refine wpIn_rangeFunc_G1 rfl (by omega) (gf := 51) (lb := #[.pointer (some ⟨z, 0, none⟩)]) rfl trivial (enters_of Tryd.func51 (by kernel_rfl) rfl) hG
    (fun q A B k o _ hrl hk hk2 ho hc => hrl.block k o (by omega) ho (fun ⟨_, _, e⟩ => by rw [e] at hc; cases hc))
    (fun xs A o o' h ho hc => ⟨h.1, by
      obtain ⟨hv, H, h2⟩ := h.2
      exact ⟨hv, H, h2.putObj (by omega) hh1 ho hc⟩⟩) (fun h k => h.trans k) (fun W o o' h ho _ => KpP.putObj W _ o o' h ho (by have := hMw.size; have := HZ.out; omega)) (Below.refl _ _) (fun _ => rfl)
    (fun q pre W => (∃ st, JS ms (vwJ s0.1 n s0.2) st (vwJ (stJ s0 pre).1 n (stJ s0 pre).2)) ∧ Below base w1 W)
    (fun c q pre W => False)
    ?own1 ?own2 ?own3 ?own4 ?start actJ ?assign ?body ?done ?stop
  case own1 =>
    intro q pre W W' row ⟨h1, h3⟩ hg hr
    exact ⟨h1, h3.grown hg (by have := h3.size; have := HZ.out; omega) (fun k e => by have := (hr k e).1; have := HZ.out; omega)⟩
  case own2 =>
    intro c q pre W W' row h _ _
    exact h
  case own3 =>
    intro q pre A B ⟨h1, h3⟩ hAB
    exact ⟨h1, h3.trans hAB.below⟩
  case own4 =>
    intro c q pre A B h _
    exact h
  case start => exact fun q _ => ⟨⟨[], JS.nil⟩, Below.refl _ _⟩
  case assign =>
    rintro q pre x W K hI' _ _ hK
    gi_wp2
    exact hK _ _ ((KeepsOthers.refl W).from _) (KpP.refl _) hI' (by unfold actJ; simp)
  case body =>
    rintro q pre x W ⟨rr, hrr⟩ hq1 hq2 ⟨⟨st, h1⟩, h3⟩ hok
    gi_wp2
    refine ⟨(KeepsOthers.refl W).from _, KpP.refl _, ?_, h3⟩
    obtain ⟨h5, h6⟩ := hok.isN
    rw [stJ_snoc, h6]
    exact ⟨_, JS.snoc h1 h5⟩
  case done =>
    rintro D q ys W rfl hq ⟨hN, hv', H', hRW⟩ ⟨⟨st, h1⟩, h3⟩ hDk
    have HL := left_any base r mg ib cg cb hg ia ic n hv' _ _ H' W hRW
    gi_wp2_with fail
    refine ⟨trivial, (callsIn_wide.2 HL).mono ?_⟩
    rintro e w5 ⟨v, rfl, hv5, hnb, hb5⟩
    have hDk5 := (hb5.block _ (Array.getElem?_eq_some_iff.1 hDk).1).trans hDk
    rw [hs1] at hDk5
    clear HL
    gi_wp2_with fail
    refine ⟨by simp, .inl ⟨_, _, rfl, run_takeDeferred hDk5, ?_⟩⟩
    have hzw := HZ.out
    have hs3 := h3.size
    refine ⟨v, by simp [results, Tryd.results18, go_sem], v, _, st, rfl, ?_, h1.fin hN.noN, ?_, hnb⟩
    · refine ⟨hv5.1, ?_⟩
      rcases hv5.2 with h0 | ⟨b, cap, cur, e, hb, hh, rr⟩
      · exact .inl h0
      · refine .inr ⟨b, cap, cur, e, by omega, (World.putObj_heap_other (fun e2 => ?_)).trans hh, rr⟩
        rw [← e2, hh] at hDk5
        cases hDk5
    · exact ((hb1.mono hbw).trans (h3.trans (hb5.mono (by omega)))).trans (belowK_b (w := w) hbw w5 _ _ _ (by omega) hDk5 rfl rfl)
  case stop =>
    rintro D q c pre W rfl hq hp h hDk
    exact h.elim
end Go.Proofs.YtjbdhakogbolkabDoor
end
section
/- tesserabook.House: its contract. -/
namespace Go.Proofs.YtjbdhakogbolkabDoor
open Go.RowKit Go.Sort Go.Joins
def houA : List Sp := [⟨97, 122⟩, ⟨233, 233⟩]
def houB : List Sp := [⟨48, 57⟩]
def houC : List Sp := [⟨9, 10⟩, ⟨32, 32⟩]
def houW : List ByteArray := [⟨#[97, 98]⟩, ⟨#[32, 97]⟩, ⟨#[116, 104]⟩, ⟨#[116, 104, 101]⟩, ⟨#[104, 101]⟩, ⟨#[195, 169]⟩]
def houM : List Mg := [⟨97, 98, 256⟩, ⟨32, 97, 257⟩, ⟨116, 104, 258⟩, ⟨258, 101, 259⟩, ⟨104, 101, 260⟩, ⟨195, 169, 261⟩]
theorem WSP.new (w : World) (l : List ByteArray) (t : TypeId) : WSP (w.alloc (.cells (cellsW l).toArray t)) (some ⟨w.heap.size, 0, none⟩) l := by
  refine .inr ⟨w.heap.size, 0, rfl, fun i x hx => ?_⟩
  rw [cell_of_block (heap_alloc_new _ _), Nat.zero_add]
  simpa using cellsW_get hx
theorem WSP.at_new {X : World} {g : Nat} {l : List ByteArray} {t : TypeId} (hs : X.heap.size = g) : WSP (X.alloc (.cells (cellsW l).toArray t)) (some ⟨g, 0, none⟩) l := hs ▸ WSP.new X l t
theorem MSP.new (w : World) (l : List Mg) (t : TypeId) : MSP (w.alloc (.cells (cellsM l).toArray t)) (some ⟨w.heap.size, 0, none⟩) l := by
  refine .inr ⟨w.heap.size, 0, rfl, fun i x hx => ?_⟩
  obtain ⟨h0, h1, h2⟩ := cellsM_get l i x hx
  unfold MgAt
  rw [cell_of_block (heap_alloc_new _ _), cell_of_block (heap_alloc_new _ _), cell_of_block (heap_alloc_new _ _), Nat.zero_add]
  exact ⟨by simpa using h0, by simpa using h1, by simpa using h2⟩
theorem MSP.at_new {X : World} {g : Nat} {l : List Mg} {t : TypeId} (hs : X.heap.size = g) : MSP (X.alloc (.cells (cellsM l).toArray t)) (some ⟨g, 0, none⟩) l := hs ▸ MSP.new X l t
set_option maxRecDepth 100000 in
set_option maxHeartbeats 2000000 in
theorem house_any (w : World) : Calls Tryd.prog 15 #[] w fun e w' => ∃ s0 s1 a b c, e = .returned (.agg #[.slice s0 6 6, .slice s1 6 6, .slice a 2 2, .slice b 1 1, .slice c 2 2]) ∧ WSP w' s0 houW ∧ MSP w' s1 houM ∧ SPS w' a houA ∧ SPS w' b houB ∧ SPS w' c houC ∧ Below w.heap.size w w' := by
  go_enter Tryd.func15, Tryd.ntmps15
  go_wp2_with fail
  generalize hV : ((w.alloc _).alloc _).alloc _ = V
  have hVs : V.heap.size = w.heap.size + 1 + 1 + 1 := by rw [← hV]; simp
  have hVb : Below w.heap.size w V := by rw [← hV]; exact (((Below.refl _ w).alloc (Nat.le_refl _) _).alloc (by simp) _).alloc (by simp; omega) _
  have hx := heap_alloc_new w (.cells #[.slice (some ⟨w.heap.size + 1, 0, none⟩) 6 6, .slice (some ⟨w.heap.size + 1 + 1, 0, none⟩) 6 6, .slice (some ⟨w.heap.size + 1 + 1 + 1, 0, none⟩) 2 2, .slice (some ⟨w.heap.size + 1 + 1 + 1 + 1, 0, none⟩) 1 1, .slice (some ⟨w.heap.size + 1 + 1 + 1 + 1 + 1, 0, none⟩) 2 2] 26)
  have hxV : V.heap[w.heap.size]? = some (.cells #[.slice (some ⟨w.heap.size + 1, 0, none⟩) 6 6, .slice (some ⟨w.heap.size + 1 + 1, 0, none⟩) 6 6, .slice (some ⟨w.heap.size + 1 + 1 + 1, 0, none⟩) 2 2, .slice (some ⟨w.heap.size + 1 + 1 + 1 + 1, 0, none⟩) 1 1, .slice (some ⟨w.heap.size + 1 + 1 + 1 + 1 + 1, 0, none⟩) 2 2] 26 (0, 0)) := by
    rw [← hV]
    exact ((((Below.refl _ _).alloc (Nat.le_refl _) _).alloc (by simp) _).block w.heap.size (by simp)).trans hx
  have eW : WSP V (some ⟨w.heap.size + 1, 0, none⟩) houW := by
    rw [← hV]
    exact (WSP.at_new (l := houW) (by simp)).below (box_below _ _)
  have eM : MSP V (some ⟨w.heap.size + 1 + 1, 0, none⟩) houM := by
    rw [← hV]
    exact MSP.at_new (l := houM) (by simp)
  clear hx hV
  have eA := SPS.new V houA 81
  rw [hVs] at eA
  obtain ⟨V1, hV1⟩ : ∃ V1, V1 = V.alloc (.cells #[.int .i32 97, .int .i32 122, .int .i32 233, .int .i32 233] 81) := ⟨_, rfl⟩
  have eA : SPS V1 (some ⟨w.heap.size + 1 + 1 + 1, 0, none⟩) houA := by rw [hV1]; exact eA
  have h1s : V1.heap.size = w.heap.size + 1 + 1 + 1 + 1 := by rw [hV1]; simp; omega
  have h1b : Below V.heap.size V V1 := by rw [hV1]; exact (Below.refl _ _).alloc (Nat.le_refl _) _
  have eB := SPS.new V1 houB 81
  rw [h1s] at eB
  obtain ⟨V2, hV2⟩ : ∃ V2, V2 = V1.alloc (.cells #[.int .i32 48, .int .i32 57] 81) := ⟨_, rfl⟩
  have eB : SPS V2 (some ⟨w.heap.size + 1 + 1 + 1 + 1, 0, none⟩) houB := by rw [hV2]; exact eB
  have h2s : V2.heap.size = w.heap.size + 1 + 1 + 1 + 1 + 1 := by rw [hV2]; simp; omega
  have h2b : Below V1.heap.size V1 V2 := by rw [hV2]; exact (Below.refl _ _).alloc (Nat.le_refl _) _
  have eC := SPS.new V2 houC 81
  rw [h2s] at eC
  obtain ⟨V3, hV3⟩ : ∃ V3, V3 = V2.alloc (.cells #[.int .i32 9, .int .i32 10, .int .i32 32, .int .i32 32] 81) := ⟨_, rfl⟩
  have eC : SPS V3 (some ⟨w.heap.size + 1 + 1 + 1 + 1 + 1, 0, none⟩) houC := by rw [hV3]; exact eC
  have h3b : Below V2.heap.size V2 V3 := by rw [hV3]; exact (Below.refl _ _).alloc (Nat.le_refl _) _
  rw [← hV1, ← hV2, ← hV3]
  clear hV1 hV2 hV3
  have hB := hVb.trans ((h1b.mono hVb.size).trans ((h2b.trans (h3b.mono h2b.size)).mono (by omega)))
  have hxF := (((h1b.trans ((h2b.trans (h3b.mono h2b.size)).mono h1b.size)).block _ (by omega)).trans hxV)
  have y0 := cell_of_block hxF (i := 0)
  have y1 := cell_of_block hxF (i := 1)
  have y2 := cell_of_block hxF (i := 2)
  have y3 := cell_of_block hxF (i := 3)
  have y4 := cell_of_block hxF (i := 4)
  refine bodyPost_ret (v := .agg #[.slice (some ⟨w.heap.size + 1, 0, none⟩) 6 6, .slice (some ⟨w.heap.size + 1 + 1, 0, none⟩) 6 6, .slice (some ⟨w.heap.size + 1 + 1 + 1, 0, none⟩) 2 2, .slice (some ⟨w.heap.size + 1 + 1 + 1 + 1, 0, none⟩) 1 1, .slice (some ⟨w.heap.size + 1 + 1 + 1 + 1 + 1, 0, none⟩) 2 2]) (by simp [results, Tryd.results15, go_sem, y0, y1, y2, y3, y4]) rfl ⟨_, _, _, _, _, rfl, ((eW.below h1b).below h2b).below h3b, ((eM.below h1b).below h2b).below h3b, (eA.below h2b).below h3b, eB.below h3b, eC, hB⟩
end Go.Proofs.YtjbdhakogbolkabDoor
end
section
/- tesserabook.Roomy, Same, Intact of words: their contracts. -/
namespace Go.Proofs.YtjbdhakogbolkabDoor
open Go.RowKit Go.Sort Go.Joins
/-- A block of words' cells. -/
def OwnPw (w : World) (g : Nat) (L : List Value) : Prop := w.heap[g]? = some (.cells L.toArray 9 (0, 0))
theorem OwnPw.below {w w' : World} {g : Nat} {L : List Value} {B : Nat} (h : OwnPw w g L) (hb : Below B w w') (hg : g < B) : OwnPw w' g L := by
  unfold OwnPw; rw [hb.block g hg]; exact h
theorem OwnPw.lt {w : World} {g : Nat} {L : List Value} (h : OwnPw w g L) : g < w.heap.size := (Array.getElem?_eq_some_iff.1 h).1
theorem OwnPw.cell {w : World} {g : Nat} {L : List Value} (h : OwnPw w g L) (j : Nat) : w.cell? ⟨g, j, none⟩ = L[j]? := by
  rw [cell_of_block h]; simp
theorem OwnPw.free {w : World} {g : Nat} {L : List Value} (h : OwnPw w g L) (j : Nat) : w.frozen? ⟨g, j, none⟩ = false := unfrozen_of_block h j
theorem OwnPw.set {w : World} {g : Nat} {L : List Value} (h : OwnPw w g L) (j : Nat) (v : Value) : OwnPw (w.setCell ⟨g, j, none⟩ v) g (L.set j v) := by
  have := block_setCell h (i := j) v
  unfold OwnPw; rw [this]; simp
theorem WSP.of_block {w : World} {g : Nat} {l r : List ByteArray} {t : TypeId} {fr : Nat × Nat} (h : w.heap[g]? = some (.cells (cellsW (l ++ r)).toArray t fr)) : WSP w (some ⟨g, 0, none⟩) l := by
  refine .inr ⟨g, 0, rfl, fun i x hx => ?_⟩
  have hx' : (l ++ r)[i]? = some x := by
    rw [List.getElem?_append_left (List.getElem?_eq_some_iff.1 hx).1]; exact hx
  have h0 := cellsW_get hx'
  rw [cell_of_block h, Nat.zero_add]
  simpa using h0
theorem cellsW_append (l r : List ByteArray) : cellsW (l ++ r) = cellsW l ++ cellsW r := by simp [cellsW]
theorem cellsW_set (l : List ByteArray) (i : Nat) (x : ByteArray) : (cellsW l).set i (.string x) = cellsW (l.set i x) := by simp [cellsW, List.map_set]
def fillW (l : List ByteArray) (m : ByteArray) (k : Nat) : List ByteArray := l ++ (List.replicate k m ++ List.replicate (80 - k) ⟨#[]⟩)
theorem fillW_set (l : List ByteArray) (m : ByteArray) (k : Nat) (h : k < 80) : (fillW l m k).set (l.length + k) m = fillW l m (k + 1) := by
  unfold fillW
  rw [List.set_append_right _ _ (by omega), Nat.add_sub_cancel_left, List.set_append_right _ _ (by simp)]
  simp only [List.length_replicate, Nat.sub_self]
  rw [show 80 - k = (80 - (k + 1)) + 1 from by omega, List.replicate_succ, List.set_cons_zero, List.replicate_succ', List.append_assoc]
  rfl
theorem fillW_length (l : List ByteArray) (m : ByteArray) (k : Nat) (h : k ≤ 80) : (fillW l m k).length = l.length + 80 := by
  simp [fillW]; omega
theorem fillW_get (l : List ByteArray) (m : ByteArray) (n k : Nat) (h : k < n) : (fillW l m n)[l.length + k]? = some m := by
  unfold fillW
  rw [List.getElem?_append_right (by omega), Nat.add_sub_cancel_left, List.getElem?_append_left (by simpa using h)]
  simp [h]
theorem fillW_start (l : List ByteArray) (m : ByteArray) : fillW l ⟨#[]⟩ 0 = fillW l m 0 := by simp [fillW]
theorem copy_cellsW (l : List ByteArray) : (cellsW (List.replicate (l.length + 80) ⟨#[]⟩)).take 0 ++ cellsW l ++ (cellsW (List.replicate (l.length + 80) ⟨#[]⟩)).drop (0 + (cellsW l).length) = cellsW (fillW l ⟨#[]⟩ 0) := by
  have h : cellsW (List.replicate (l.length + 80) ⟨#[]⟩) = cellsW (List.replicate l.length ⟨#[]⟩) ++ cellsW (List.replicate 80 ⟨#[]⟩) := by
    rw [← cellsW_append, List.replicate_append_replicate]
  rw [h, Nat.zero_add, List.drop_append_of_le_length (by rw [cellsW_length, cellsW_length]; simp), List.drop_of_length_le (by rw [cellsW_length, cellsW_length]; simp)]
  unfold fillW
  simp [cellsW_append]
theorem sizeW : (Tryd.prog.info? 9).map (·.size) = some 1 := by kernel_rfl
theorem madeW (n : Nat) : madeCells #[Value.string ⟨#[]⟩] (n * 1) = (cellsW (List.replicate n ⟨#[]⟩)).toArray := by
  have e : cellsW (List.replicate n ⟨#[]⟩) = List.replicate (n * 1) (.string ⟨#[]⟩) := by simp [cellsW]
  rw [e]
  apply Array.ext
  · simp [madeCells]
  · intro i h1 h2
    simp only [madeCells, Array.getElem_map, List.getElem_toArray, List.getElem_replicate]
    have : (Array.range (n * 1))[i]'(by simpa [madeCells] using h1) % #[Value.string ⟨#[]⟩].size < 1 := Nat.mod_lt _ (by decide)
    generalize (Array.range (n * 1))[i]'(by simpa [madeCells] using h1) % #[Value.string ⟨#[]⟩].size = j at this
    match j, this with
    | 0, _ => rfl
theorem copy_runW (W : World) (g : Nat) (a : Option Addr) (cap : Nat) (l : List ByteArray) (hO : OwnPw W g (cellsW (List.replicate (l.length + 80) ⟨#[]⟩))) (h : WSP W a l) :
    ∃ W1, (Builtin.copy_ #[22, 22] 3 #[.slice (some ⟨g, 0, none⟩) (l.length + 80) (l.length + 80), .slice a l.length cap]).run Tryd.prog W = .ok (.int .i64 (l.length : Int)) W1 ∧
      OwnPw W1 g (cellsW (fillW l ⟨#[]⟩ 0)) ∧ ∀ B w0, Below B w0 W → B ≤ g → Below B w0 W1 := by
  have nil : l = [] → ∃ W1, (Builtin.copy_ #[22, 22] 3 #[.slice (some ⟨g, 0, none⟩) (l.length + 80) (l.length + 80), .slice a l.length cap]).run Tryd.prog W = .ok (.int .i64 (l.length : Int)) W1 ∧
      OwnPw W1 g (cellsW (fillW l ⟨#[]⟩ 0)) ∧ ∀ B w0, Below B w0 W → B ≤ g → Below B w0 W1 := by
    rintro rfl
    refine ⟨W, ?_, by simpa [fillW] using hO, fun _ _ h _ => h⟩
    have hl : ∀ (x : Addr), (loadCells x 0).run Tryd.prog W = .ok #[] W := fun x => by simpa using run_loadCells_list (P := Tryd.prog) W x [] (by simp)
    cases hq : Tryd.prog.info? 9 with
    | none => have := sizeW; simp [hq] at this
    | some i =>
      cases a <;> simp [Builtin.copy_, run_underlying Tryd.underlying22, Builtin.lenOf, Builtin.firstCells, sizeOf, typeInfo, hq, storeCells, hl, goInt]
  rcases h with h | ⟨b, off, rfl, hc⟩
  · exact nil h
  · have hmin : Nat.min l.length (l.length + 80) = l.length := Nat.min_eq_left (by omega)
    have hr := run_copy_rowN (P := Tryd.prog) W 22 22 3 9 1 g 0 (l.length + 80) (l.length + 80) ⟨b, off, none⟩ l.length cap _ 9 (cellsW l) Tryd.underlying22 sizeW hO (by rw [hmin, cellsW_length])
      (WSP.cells (.inr ⟨b, off, rfl, hc⟩)) (by rw [List.size_toArray, cellsW_length, cellsW_length]; simp) (cellsW_one l)
    rw [hmin] at hr
    refine ⟨_, hr, ?_, fun B w0 hb hg => below_setRow hb hg _⟩
    have := setRow_heap W g (cellsW (List.replicate (l.length + 80) ⟨#[]⟩)).toArray ((cellsW (List.replicate (l.length + 80) ⟨#[]⟩)).take 0 ++ cellsW l ++ (cellsW (List.replicate (l.length + 80) ⟨#[]⟩)).drop (0 + (cellsW l).length)).toArray 9 (0, 0) hO
    rw [copy_cellsW] at this
    unfold OwnPw
    rw [← this]
    rw [copy_cellsW]
end Go.Proofs.YtjbdhakogbolkabDoor
end
section
/- tesserabook.Roomy, Same, Intact of merges: their contracts. -/
namespace Go.Proofs.YtjbdhakogbolkabDoor
open Go.RowKit Go.Sort Go.Joins
theorem MgAt.new (w : World) (m : Mg) (t : TypeId) : MgAt (w.alloc (.cells #[.int .i64 m.l, .int .i64 m.r, .int .i64 m.i] t)) w.heap.size 0 m := ⟨by simp [go_sem], by simp [go_sem], by simp [go_sem]⟩
def gL : Field := Field.mk "Left" 3 0 false "" "" 0
def gR : Field := Field.mk "Right" 3 1 false "" "" 8
def gI : Field := Field.mk "Id" 3 2 false "" "" 16
theorem fieldsM : Tryd.prog.fieldsOf 79 = #[gL, gR, gI] := by kernel_rfl
theorem undM : Tryd.prog.underlying 79 = some (.struct #[gL, gR, gI]) := by kernel_rfl
theorem heldM : Tryd.prog.stoodInHeld 79 = false := by kernel_rfl
theorem guardM : Tryd.prog.eqGuardType Tryd.prog.depth 79 = false := by kernel_rfl
def mgEq (x y : Mg) : Bool := x.l == y.l && (x.r == y.r && x.i == y.i)
theorem mgEq_self (x : Mg) : mgEq x x = true := by simp [mgEq]
theorem equal_mg (a b c a' b' c' : Int) (W : World) : (Op.equalIn 10000 79 (.agg #[.int .i64 a, .int .i64 b, .int .i64 c]) (.agg #[.int .i64 a', .int .i64 b', .int .i64 c'])).run Tryd.prog W = .ok (a == a' && (b == b' && c == c')) W := by
  rw [run_equalIn_agg W 9999 79 _ _ (by rw [fieldsM]; exact undM) heldM, fieldsM]
  simp [go_sem, Op.eqFields, gL, gR, gI, part]
  by_cases h1 : a = a'
  · by_cases h2 : b = b'
    · by_cases h3 : c = c'
      · simp [h1, h2, h3]
      · simp [h1, h2, h3]
    · simp [h1, h2]
  · simp [h1]
theorem eql_mg (x y : Mg) (v : Bool) (h : mgEq x y = v) (W : World) : (binOp BinOp.eql 79 (.agg #[.int .i64 x.l, .int .i64 x.r, .int .i64 x.i]) (.agg #[.int .i64 y.l, .int .i64 y.r, .int .i64 y.i])).run Tryd.prog W = .ok (.bool v) W := by
  rw [run_eql_struct, equal_mg, ← h]
  rfl
theorem neq_mg (x y : Mg) (v : Bool) (h : (!mgEq x y) = v) (W : World) : (binOp BinOp.neq 79 (.agg #[.int .i64 x.l, .int .i64 x.r, .int .i64 x.i]) (.agg #[.int .i64 y.l, .int .i64 y.r, .int .i64 y.i])).run Tryd.prog W = .ok (.bool v) W := by
  rw [run_neq_struct, equal_mg, ← h]
  rfl
theorem eqIn_mg (x y : Mg) (v : Bool) (h : mgEq x y = v) (W : World) : (Op.equalIn 10000 79 (.agg #[.int .i64 x.l, .int .i64 x.r, .int .i64 x.i]) (.agg #[.int .i64 y.l, .int .i64 y.r, .int .i64 y.i])).run Tryd.prog W = .ok v W := by
  rw [equal_mg, ← h]
  rfl
/-- A block of merges' cells. -/
def OwnPm (w : World) (g : Nat) (L : List Value) : Prop := w.heap[g]? = some (.cells L.toArray 79 (0, 0))
theorem OwnPm.below {w w' : World} {g : Nat} {L : List Value} {B : Nat} (h : OwnPm w g L) (hb : Below B w w') (hg : g < B) : OwnPm w' g L := by
  unfold OwnPm; rw [hb.block g hg]; exact h
theorem OwnPm.lt {w : World} {g : Nat} {L : List Value} (h : OwnPm w g L) : g < w.heap.size := (Array.getElem?_eq_some_iff.1 h).1
theorem OwnPm.cell {w : World} {g : Nat} {L : List Value} (h : OwnPm w g L) (j : Nat) : w.cell? ⟨g, j, none⟩ = L[j]? := by
  rw [cell_of_block h]; simp
theorem OwnPm.free {w : World} {g : Nat} {L : List Value} (h : OwnPm w g L) (j : Nat) : w.frozen? ⟨g, j, none⟩ = false := unfrozen_of_block h j
theorem OwnPm.set {w : World} {g : Nat} {L : List Value} (h : OwnPm w g L) (j : Nat) (v : Value) : OwnPm (w.setCell ⟨g, j, none⟩ v) g (L.set j v) := by
  have := block_setCell h (i := j) v
  unfold OwnPm; rw [this]; simp
theorem MSP.of_block {w : World} {g : Nat} {l r : List Mg} {t : TypeId} {fr : Nat × Nat} (h : w.heap[g]? = some (.cells (cellsM (l ++ r)).toArray t fr)) : MSP w (some ⟨g, 0, none⟩) l := by
  refine .inr ⟨g, 0, rfl, fun i x hx => ?_⟩
  have hx' : (l ++ r)[i]? = some x := by
    rw [List.getElem?_append_left (List.getElem?_eq_some_iff.1 hx).1]; exact hx
  obtain ⟨h0, h1, h2⟩ := cellsM_get _ _ _ hx'
  unfold MgAt
  rw [cell_of_block h, cell_of_block h, cell_of_block h, Nat.zero_add]
  exact ⟨by simpa using h0, by simpa using h1, by simpa using h2⟩
theorem cellsM_append (l r : List Mg) : cellsM (l ++ r) = cellsM l ++ cellsM r := by simp [cellsM]
theorem cellsM_set (l : List Mg) (i : Nat) (x : Mg) : (((cellsM l).set (i * 3) (.int .i64 x.l)).set (i * 3 + 1) (.int .i64 x.r)).set (i * 3 + 2) (.int .i64 x.i) = cellsM (l.set i x) := by
  induction l generalizing i with
  | nil => simp [cellsM]
  | cons y l ih =>
    have e : ∀ z, cellsM (z :: l) = .int .i64 z.l :: .int .i64 z.r :: .int .i64 z.i :: cellsM l := fun z => rfl
    cases i with
    | zero => rfl
    | succ i =>
      have e2 : cellsM ((y :: l).set (i + 1) x) = .int .i64 y.l :: .int .i64 y.r :: .int .i64 y.i :: cellsM (l.set i x) := rfl
      rw [e2, e, ← ih i, show (i + 1) * 3 = i * 3 + 1 + 1 + 1 by omega]
      rfl
def fillM (l : List Mg) (m : Mg) (k : Nat) : List Mg := l ++ (List.replicate k m ++ List.replicate (80 - k) ⟨0, 0, 0⟩)
theorem fillM_set (l : List Mg) (m : Mg) (k : Nat) (h : k < 80) : (fillM l m k).set (l.length + k) m = fillM l m (k + 1) := by
  unfold fillM
  rw [List.set_append_right _ _ (by omega), Nat.add_sub_cancel_left, List.set_append_right _ _ (by simp)]
  simp only [List.length_replicate, Nat.sub_self]
  rw [show 80 - k = (80 - (k + 1)) + 1 from by omega, List.replicate_succ, List.set_cons_zero, List.replicate_succ', List.append_assoc]
  rfl
theorem fillM_length (l : List Mg) (m : Mg) (k : Nat) (h : k ≤ 80) : (fillM l m k).length = l.length + 80 := by
  simp [fillM]; omega
theorem fillM_get (l : List Mg) (m : Mg) (n k : Nat) (h : k < n) : (fillM l m n)[l.length + k]? = some m := by
  unfold fillM
  rw [List.getElem?_append_right (by omega), Nat.add_sub_cancel_left, List.getElem?_append_left (by simpa using h)]
  simp [h]
theorem fillM_start (l : List Mg) (m : Mg) : fillM l ⟨0, 0, 0⟩ 0 = fillM l m 0 := by simp [fillM]
theorem copy_cellsM (l : List Mg) : (cellsM (List.replicate (l.length + 80) ⟨0, 0, 0⟩)).take 0 ++ cellsM l ++ (cellsM (List.replicate (l.length + 80) ⟨0, 0, 0⟩)).drop (0 + (cellsM l).length) = cellsM (fillM l ⟨0, 0, 0⟩ 0) := by
  have h : cellsM (List.replicate (l.length + 80) ⟨0, 0, 0⟩) = cellsM (List.replicate l.length ⟨0, 0, 0⟩) ++ cellsM (List.replicate 80 ⟨0, 0, 0⟩) := by
    rw [← cellsM_append, List.replicate_append_replicate]
  rw [h, Nat.zero_add, List.drop_append_of_le_length (by rw [cellsM_length, cellsM_length]; simp), List.drop_of_length_le (by rw [cellsM_length, cellsM_length]; simp)]
  unfold fillM
  simp [cellsM_append]
theorem sizeM : (Tryd.prog.info? 79).map (·.size) = some 3 := by kernel_rfl
theorem madeMg (n : Nat) : madeCells #[Value.int .i64 0, Value.int .i64 0, Value.int .i64 0] (n * 3) = (cellsM (List.replicate n ⟨0, 0, 0⟩)).toArray := by
  have e : cellsM (List.replicate n ⟨0, 0, 0⟩) = List.replicate (n * 3) (.int .i64 0) := by
    induction n with
    | zero => rfl
    | succ n ih =>
      rw [List.replicate_succ, show cellsM (⟨0, 0, 0⟩ :: List.replicate n ⟨0, 0, 0⟩) = .int .i64 0 :: .int .i64 0 :: .int .i64 0 :: cellsM (List.replicate n ⟨0, 0, 0⟩) from rfl, ih, show (n + 1) * 3 = n * 3 + 1 + 1 + 1 by omega, List.replicate_succ, List.replicate_succ, List.replicate_succ]
  rw [e]
  apply Array.ext
  · simp [madeCells]
  · intro i h1 h2
    simp only [madeCells, Array.getElem_map, List.getElem_toArray, List.getElem_replicate]
    have : (Array.range (n * 3))[i]'(by simpa [madeCells] using h1) % #[Value.int .i64 0, Value.int .i64 0, Value.int .i64 0].size < 3 := Nat.mod_lt _ (by decide)
    generalize (Array.range (n * 3))[i]'(by simpa [madeCells] using h1) % #[Value.int .i64 0, Value.int .i64 0, Value.int .i64 0].size = j at this
    match j, this with
    | 0, _ => rfl
    | 1, _ => rfl
    | 2, _ => rfl
theorem copy_runM (W : World) (g : Nat) (a : Option Addr) (cap : Nat) (l : List Mg) (hO : OwnPm W g (cellsM (List.replicate (l.length + 80) ⟨0, 0, 0⟩))) (h : MSP W a l) :
    ∃ W1, (Builtin.copy_ #[23, 23] 3 #[.slice (some ⟨g, 0, none⟩) (l.length + 80) (l.length + 80), .slice a l.length cap]).run Tryd.prog W = .ok (.int .i64 (l.length : Int)) W1 ∧
      OwnPm W1 g (cellsM (fillM l ⟨0, 0, 0⟩ 0)) ∧ ∀ B w0, Below B w0 W → B ≤ g → Below B w0 W1 := by
  have nil : l = [] → ∃ W1, (Builtin.copy_ #[23, 23] 3 #[.slice (some ⟨g, 0, none⟩) (l.length + 80) (l.length + 80), .slice a l.length cap]).run Tryd.prog W = .ok (.int .i64 (l.length : Int)) W1 ∧
      OwnPm W1 g (cellsM (fillM l ⟨0, 0, 0⟩ 0)) ∧ ∀ B w0, Below B w0 W → B ≤ g → Below B w0 W1 := by
    rintro rfl
    refine ⟨W, ?_, by simpa [fillM] using hO, fun _ _ h _ => h⟩
    have hl : ∀ (x : Addr), (loadCells x 0).run Tryd.prog W = .ok #[] W := fun x => by simpa using run_loadCells_list (P := Tryd.prog) W x [] (by simp)
    cases hq : Tryd.prog.info? 79 with
    | none => have := sizeM; simp [hq] at this
    | some i =>
      cases a <;> simp [Builtin.copy_, run_underlying Tryd.underlying23, Builtin.lenOf, Builtin.firstCells, sizeOf, typeInfo, hq, storeCells, hl, goInt]
  rcases h with h | ⟨b, off, rfl, hc⟩
  · exact nil h
  · have hmin : Nat.min l.length (l.length + 80) = l.length := Nat.min_eq_left (by omega)
    have hr := run_copy_rowN (P := Tryd.prog) W 23 23 3 79 3 g 0 (l.length + 80) (l.length + 80) ⟨b, off, none⟩ l.length cap _ 79 (cellsM l) Tryd.underlying23 sizeM hO (by rw [hmin, cellsM_length])
      (MSP.cells (.inr ⟨b, off, rfl, hc⟩)) (by rw [List.size_toArray, cellsM_length, cellsM_length]; simp; omega) (cellsM_one l)
    rw [hmin] at hr
    refine ⟨_, hr, ?_, fun B w0 hb hg => below_setRow hb hg _⟩
    have := setRow_heap W g (cellsM (List.replicate (l.length + 80) ⟨0, 0, 0⟩)).toArray ((cellsM (List.replicate (l.length + 80) ⟨0, 0, 0⟩)).take 0 ++ cellsM l ++ (cellsM (List.replicate (l.length + 80) ⟨0, 0, 0⟩)).drop (0 + (cellsM l).length)).toArray 79 (0, 0) hO
    rw [copy_cellsM] at this
    unfold OwnPm
    rw [← this]
    rw [copy_cellsM]
theorem MgAt.other {w : World} {b off g : Nat} {x : Mg} (h : MgAt w b off x) (i j k : Nat) (u v y : Value) (hg : b ≠ g) : MgAt (((w.setCell ⟨g, i, none⟩ u).setCell ⟨g, j, none⟩ v).setCell ⟨g, k, none⟩ y) b off x := by
  have e : ∀ o, (((w.setCell ⟨g, i, none⟩ u).setCell ⟨g, j, none⟩ v).setCell ⟨g, k, none⟩ y).cell? ⟨b, o, none⟩ = w.cell? ⟨b, o, none⟩ := fun o => by
    rw [World.cell?_setCell_other _ _ _ _ (fun e => hg (by injection e with e; exact e.symm)), World.cell?_setCell_other _ _ _ _ (fun e => hg (by injection e with e; exact e.symm)), World.cell?_setCell_other _ _ _ _ (fun e => hg (by injection e with e; exact e.symm))]
  exact ⟨(e _).trans h.1, (e _).trans h.2.1, (e _).trans h.2.2⟩
end Go.Proofs.YtjbdhakogbolkabDoor
end
section
/- tesseralaw5.known; Model.Data; tesserakeep.Same: their contracts. -/
namespace Go.Proofs.YtjbdhakogbolkabDoor
open Go.RowKit Go.Sort Go.Joins
set_option linter.unusedVariables false
theorem hou_up : upB houW houM houA houB houC = true := by decide +kernel
theorem hou_wf : MWf houM := by
  intro i x hx
  have hi : i < 6 := (List.getElem?_eq_some_iff.1 hx).1
  unfold W64
  rcases (show i = 0 ∨ i = 1 ∨ i = 2 ∨ i = 3 ∨ i = 4 ∨ i = 5 by omega) with rfl | rfl | rfl | rfl | rfl | rfl <;>
    (simp [houM] at hx; subst hx; decide)
/-- Of a model that is right: sizes. -/
structure MOk (ws : List ByteArray) (ms : List Mg) (A B C : List Sp) : Prop where
  m4 : ms.length ≤ 4096
  nm : ws.length = ms.length
  la : A.length ≤ 512
  lb : B.length ≤ 512
  lc : C.length ≤ 512
  words : WRgt ws
  cuts : ∀ j, j < ms.length → badM ws ms j = 0
  cls : (checkA A B C).1 = 0
theorem checkD_ok {ws : List ByteArray} {ms : List Mg} {A B C : List Sp} (h : (checkD ws ms A B C).1 = 0) : MOk ws ms A B C := by
  unfold checkD at h
  by_cases h1 : 4096 < ms.length
  · rw [if_pos h1] at h; cases h
  · rw [if_neg h1] at h
    by_cases h2 : ws.length ≠ ms.length
    · rw [if_pos h2] at h; cases h
    · rw [if_neg h2] at h
      by_cases h3 : (checkA A B C).1 ≠ 0
      · rw [if_pos h3] at h; exact absurd h h3
      · rw [if_neg h3] at h
        have h3 : (checkA A B C).1 = 0 := by simpa using h3
        by_cases h4 : (firstBad (badW ws) ws.length).1 ≠ 0
        · rw [if_pos h4] at h; exact absurd h h4
        · rw [if_neg h4] at h
          by_cases h5 : (firstBad (badM ws ms) ms.length).1 ≠ 0
          · rw [if_pos h5] at h; exact absurd h h5
          · have hl := (check_pass h3).1.len (by omega)
            exact ⟨by omega, by simpa using h2, hl.1, hl.2.1, hl.2.2, firstBad_zero (by simpa using h4), firstBad_zero (by simpa using h5), h3⟩
theorem upB_ok {ws : List ByteArray} {ms : List Mg} {A B C : List Sp} (h : upB ws ms A B C = true) : MOk ws ms A B C := by
  unfold upB at h
  simp only [Bool.and_eq_true, decide_eq_true_eq] at h
  exact checkD_ok h.2
theorem upB_few {ws : List ByteArray} {ms : List Mg} {A B C : List Sp} (h : upB ws ms A B C = true) : ms.length ≤ 300 := by
  have h0 := upB_ok h
  unfold upB largeB at h
  simp only [Bool.and_eq_true, Bool.not_eq_true', Bool.and_eq_false_iff, decide_eq_false_iff_not] at h
  have := h0.m4
  omega
end Go.Proofs.YtjbdhakogbolkabDoor
end
section
/- bpe.Merge, bpe.Joined; tesserabook.Same of ints; the law's few: their contracts. -/
namespace Go.Proofs.YtjbdhakogbolkabDoor
open Go.RowKit Go.Joins Go.Sort
set_option linter.unusedVariables false
set_option linter.unusedSimpArgs false
set_option maxRecDepth 100000
theorem mergeM_W64 {ms : List Mg} (h : MWf ms) : ∀ l r k i, mergeM ms l r = some (k, i) → W64 i := by
  intro l r k i hm
  unfold mergeM at hm
  cases hr : rankM ms l r with
  | none => rw [hr] at hm; cases hm
  | some k' =>
    rw [hr] at hm
    simp only [Option.bind_some] at hm
    cases hx : ms[k']? with
    | none => rw [hx] at hm; cases hm
    | some x =>
      rw [hx] at hm
      simp only [Option.map_some, Option.some.injEq, Prod.mk.injEq] at hm
      obtain ⟨_, rfl⟩ := hm
      exact (h k' x hx).2.2
/-- A text's bytes, as a list of ids. -/
def byL (s : ByteArray) : List Int := s.data.toList.map fun c => (c.toNat : Int)
theorem byL_length (s : ByteArray) : (byL s).length = s.size := by unfold byL; rw [List.length_map, Array.length_toList]; rfl
theorem byJ_getI (s : ByteArray) : byJ s = getI (byL s) := by
  funext i
  unfold byJ getI byL
  rw [List.getElem?_map, Array.getElem?_toList]
theorem vw_by (s : ByteArray) : vwJ (CH.inn0 s.size) s.size (byJ s) = byL s := by
  have := vw_getI (byL s)
  rw [byL_length, ← byJ_getI] at this
  exact this
theorem RowN.ins {w : World} {base : Nat} {v : Value} {l : List Int} (h : RowN w base v l) : ∃ a c, v = .slice a l.length c ∧ CH.INS w a l := by
  obtain ⟨ia, ic, ib, rfl, h1⟩ := h.ids
  refine ⟨ia, ic, rfl, ?_⟩
  rcases h1 with h1 | ⟨rfl, h2, _⟩
  · exact .inl (List.length_eq_zero_iff.1 h1)
  · refine .inr ⟨ib, 0, rfl, fun i x hx => ?_⟩
    have hi := (List.getElem?_eq_some_iff.1 hx).1
    rw [Nat.zero_add, h2.at' hi]
    unfold getI
    rw [hx]
    rfl
theorem INS.below' {w w' : World} {a : Option Addr} {l : List Int} (h : CH.INS w a l) (hb : Below w.heap.size w w') : CH.INS w' a l := by
  rcases h with h | ⟨b, off, rfl, hc⟩
  · exact .inl h
  · exact .inr ⟨b, off, rfl, fun i x hx => (hb.cell (World.block_lt_of_cell? w _ (hc i x hx))).trans (hc i x hx)⟩
theorem INS.at' {w : World} {a : Option Addr} {l : List Int} (h : CH.INS w a l) {i : Nat} {r : Int} (hr : l[i]? = some r) : ∃ b off, a = some ⟨b, off, none⟩ ∧ w.cell? ⟨b, off + i, none⟩ = some (.int .i64 r) := by
  rcases h with h | ⟨b, off, rfl, hc⟩
  · rw [h] at hr; simp at hr
  · exact ⟨b, off, rfl, hc i r hr⟩
set_option maxHeartbeats 800000 in
theorem sameN_any (a b : Option Addr) (ca cb : Nat) (l : List Int) (w : World) (hlen : l.length ≤ 9223372036854775807) (ha : CH.INS w a l) (hb : CH.INS w b l) :
    Calls Tryd.prog 16 #[.slice a l.length ca, .slice b l.length cb] w fun e w' => e = .returned (.bool true) ∧ Below w.heap.size w w' := by
  obtain ⟨n, hn⟩ : ∃ n, n = l.length := ⟨_, rfl⟩
  have HN : Hid (n = l.length) := hn
  rw [← hn] at hlen ⊢
  clear hn
  have d0 : (((n : Int)) != (n : Int)) = false := by simp
  go_enter Tryd.func16, Tryd.ntmps16
  go_wp2_with fail
  go_loopw [5] (fun i wr => ∃ k : Nat, k ≤ n ∧ i = .int .i64 k ∧ Below w.heap.size w wr) (fun i _ => n - (intOf i).toNat)
  case atStart => exact ⟨0, Nat.zero_le _, rfl, Below.refl _ _⟩
  case round =>
    obtain ⟨k, hk, rfl, hbr⟩ := hrel
    by_cases hlt : k < n
    · have hkl : k < l.length := by rw [← HN.out]; exact hlt
      obtain ⟨x, hx⟩ : ∃ x, l[k]? = some x := ⟨l[k], List.getElem?_eq_getElem hkl⟩
      obtain ⟨ba, oa, rfl, a0⟩ := INS.at' (INS.below' ha hbr) hx
      obtain ⟨bb, ob, rfl, b0⟩ := INS.at' (INS.below' hb hbr) hx
      have d1 : decide ((k : Int) < (n : Int)) = true := decide_eq_true (by omega)
      have d2 : (x != x) = false := by simp
      have bi : 0 ≤ (k : Int) ∧ (k : Int) < (n : Int) := by omega
      clear ha hb hkl hx
      go_wp2_with fail
      go_quiet (fail)
      go_wp2_with fail
      exact ⟨⟨k + 1, by omega, by simp, below_drewN hbr _⟩, by simp only [intOf]; omega⟩
    · have hkn : k = n := by omega
      subst hkn
      have d1 : decide ((k : Int) < (k : Int)) = false := decide_eq_false (by omega)
      clear ha hb
      go_wp2_with fail
      go_ret
      exact ⟨rfl, hbr⟩
/-- A text's first n bytes. -/
def fewF (s : ByteArray) (n : Nat) : ByteArray := if n < s.size then s.extract 0 n else s
theorem fewF_size (s : ByteArray) (n : Nat) : (fewF s n).size ≤ n := by
  unfold fewF
  split
  · rw [ByteArray.size_extract]; omega
  · omega
theorem few10_any (s : ByteArray) (n : Nat) (w : World) : Calls Tryd.prog 6 #[.string s, .int .i64 (n : Nat)] w fun e w' => e = .returned (.string (fewF s n)) ∧ w' = w := by
  by_cases h : n < s.size
  · have hf : fewF s n = s.extract 0 n := by unfold fewF; rw [if_pos h]
    rw [hf]
    have d : decide ((n : Int) < (s.size : Int)) = true := decide_eq_true (by omega)
    have hle : 0 ≤ (n : Int) ∧ (n : Int) ≤ (s.size : Int) := by omega
    go_enter Tryd.func6, Tryd.ntmps6
    go_wp2_with fail
    go_ret
    exact ⟨rfl, rfl⟩
  · have hf : fewF s n = s := by unfold fewF; rw [if_neg h]
    rw [hf]
    have d : decide ((n : Int) < (s.size : Int)) = false := decide_eq_false (by omega)
    go_enter Tryd.func6, Tryd.ntmps6
    go_wp2_with fail
    go_ret
    exact ⟨rfl, rfl⟩
theorem bmerge_no (p : Option Addr) (s : ByteArray) (w : World) (h : refuF p s.size ≠ 0) :
    Calls Tryd.prog 7 #[.pointer p, .string s] w fun e w' => e = .returned (.tuple #[.slice none 0 0, .int .i64 (refuF p s.size)]) ∧ w' = w := by
  have HR := refusal_any p s.size w
  obtain ⟨y, hy⟩ : ∃ y, y = refuF p s.size := ⟨_, rfl⟩
  rw [← hy] at h HR ⊢
  have d : (y != 0) = true := by simpa using h
  clear hy h
  go_enter Tryd.func7, Tryd.ntmps7
  go_wp2_with fail
  refine HR.mono ?_
  rintro e w1 ⟨rfl, he⟩
  obtain rfl := he.symm
  clear HR
  go_wp2_with fail
  exact bodyPost_ret (v := .tuple #[.slice none 0 0, .int .i64 y]) (by simp [results, Tryd.results7, go_sem]) rfl ⟨rfl, rfl⟩
set_option maxHeartbeats 1000000 in
theorem bmerge_any (mg lo : Nat) (s : ByteArray) (ws : List ByteArray) (ms : List Mg) (A B C : List Sp) (w : World) (hs : s.size ≤ 1048576) (hMI : ∀ l r k i, mergeM ms l r = some (k, i) → W64 i) (hM : ModelAt w lo mg ws ms A B C) :
    Calls Tryd.prog 7 #[.pointer (some ⟨mg, 0, none⟩), .string s] w fun e w' => ∃ v l st, e = .returned (.tuple #[v, .int .i64 0]) ∧ RowN w' w.heap.size v l ∧ JR ms (byL s) st l ∧ Below w.heap.size w w' ∧ v.ownBlock ≠ none := by
  have HR := refusal_any (some ⟨mg, 0, none⟩) s.size w
  rw [show refuF (some ⟨mg, 0, none⟩) s.size = 0 by unfold refuF; rw [if_neg (by simp), if_neg (by omega)]] at HR
  have HB := bytesOf_any s w hs
  have hlow : lo ≤ w.heap.size := by
    obtain ⟨a0, c0, a1, c1, a2, c2, a3, c3, a4, c4, gt, gr, h1, h2, h3, h4⟩ := hM
    have := (Array.getElem?_eq_some_iff.1 h3).1
    omega
  go_enter Tryd.func7, Tryd.ntmps7
  go_wp2_with fail
  refine HR.mono ?_
  rintro e w1 ⟨rfl, he⟩
  obtain rfl := he.symm
  clear HR
  go_wp2_with fail
  refine HB.mono ?_
  rintro e w2 ⟨rfl, hI2, hb2⟩
  clear HB
  have HN := newRow_any w.heap.size mg w.heap.size lo (some ⟨w.heap.size, 0, none⟩) s.size s.size (byJ s) ws ms A B C w2 hs (.inr ⟨rfl, hI2, Nat.le_refl _⟩) (hM.below hb2) (fun k _ => by have := byJ_range s k; unfold W64; omega) hb2.size
  go_wp2_with fail
  refine HN.mono ?_
  rintro e w3 ⟨r, ib', cg, cb, hg, hv, H, rfl, hR3, hib, hlt, hH3, hC3, hl3, hb3⟩
  clear HN
  have hcn : CH.cntG (CH.inn0 s.size) s.size = s.size := CH.cnt_all (Nat.le_refl _)
  have B3 := hb2.trans (hb3.mono hb2.size)
  have HJ := bjoined_any w.heap.size r mg ib' cg cb hg lo _ _ s.size hv (CH.inn0 s.size, byJ s) H ws ms A B C w w3 hMI hM (Nat.le_refl _) hib hlt B3 (by rw [hcn]; exact hR3) (fun k _ => by have := byJ_range s k; show W64 (byJ s k); unfold W64; omega) hH3 hC3 (by rw [hcn]; omega)
  rw [vw_by] at HJ
  have hs3 := B3.size
  clear hR3 hib hlt hH3 hC3 hl3 hb3 hI2 hb2 hcn
  go_wp2_with fail
  refine HJ.mono ?_
  rintro e w4 ⟨v, l, st, rfl, hv4, hj4, hb4, hnb⟩
  clear HJ
  have B4 := B3.trans hb4
  have hv5 : RowN w4 w.heap.size v l := ⟨hv4.1, by
    rcases hv4.2 with h0 | ⟨b, cap, cur, e, hb, rr⟩
    · exact .inl h0
    · exact .inr ⟨b, cap, cur, e, Nat.le_trans hs3 hb, rr⟩⟩
  clear hv4
  go_wp2_with fail
  exact bodyPost_ret (v := .tuple #[v, .int .i64 0]) (by simp [results, Tryd.results7, go_sem]) rfl ⟨v, l, st, rfl, hv5, hj4, B4, hnb⟩
end Go.Proofs.YtjbdhakogbolkabDoor
end
section
/- bpe in plain mathematics: words of ids; the step that is next, reckoned. -/
namespace Go.Proofs.YtjbdhakogbolkabDoor
set_option linter.unusedVariables false
/-- The next step, reckoned. -/
def nxC (ms : List Mg) (l : List Int) : Nat → Option (Nat × Nat × Int)
  | 0 => none
  | m + 1 => match mpJ ms l m with
    | none => nxC ms l m
    | some x => match nxC ms l m with
      | none => some (x.1, m, x.2)
      | some y => if x.1 < y.1 then some (x.1, m, x.2) else some y
theorem nxC_spec (ms : List Mg) (l : List Int) : ∀ m, match nxC ms l m with
    | none => ∀ j, j < m → mpJ ms l j = none
    | some y => y.2.1 < m ∧ mpJ ms l y.2.1 = some (y.1, y.2.2) ∧ ∀ j k' i', j < m → mpJ ms l j = some (k', i') → y.1 < k' ∨ (y.1 = k' ∧ y.2.1 ≤ j)
  | 0 => fun j h => by omega
  | m + 1 => by
    have ih := nxC_spec ms l m
    unfold nxC
    cases hm : mpJ ms l m with
    | none =>
      simp only
      cases hr : nxC ms l m with
      | none =>
        rw [hr] at ih
        simp only at ih ⊢
        intro j hj
        by_cases e : j = m
        · rw [e]; exact hm
        · exact ih j (by omega)
      | some y =>
        rw [hr] at ih
        simp only at ih ⊢
        refine ⟨by omega, ih.2.1, fun j k' i' hj h => ?_⟩
        by_cases e : j = m
        · rw [e, hm] at h; cases h
        · exact ih.2.2 j k' i' (by omega) h
    | some x =>
      simp only
      cases hr : nxC ms l m with
      | none =>
        rw [hr] at ih
        simp only at ih ⊢
        refine ⟨by omega, hm, fun j k' i' hj h => ?_⟩
        by_cases e : j = m
        · rw [e, hm] at h
          simp only [Option.some.injEq] at h
          subst h
          right; exact ⟨rfl, by omega⟩
        · rw [ih j (by omega)] at h; cases h
      | some y =>
        rw [hr] at ih
        simp only at ih ⊢
        by_cases hk : x.1 < y.1
        · rw [if_pos hk]
          simp only
          refine ⟨by omega, hm, fun j k' i' hj h => ?_⟩
          by_cases e : j = m
          · rw [e, hm] at h
            simp only [Option.some.injEq] at h
            subst h
            right; exact ⟨rfl, by omega⟩
          · have := ih.2.2 j k' i' (by omega) h
            omega
        · rw [if_neg hk]
          refine ⟨by omega, ih.2.1, fun j k' i' hj h => ?_⟩
          by_cases e : j = m
          · rw [e, hm] at h
            simp only [Option.some.injEq] at h
            subst h
            have := ih.1
            simp only at hk
            omega
          · exact ih.2.2 j k' i' (by omega) h
theorem nxC_some {ms : List Mg} {l : List Int} {k a : Nat} {i : Int} (h : nxC ms l l.length = some (k, a, i)) : IsN ms l k a i := by
  have hs := nxC_spec ms l l.length
  rw [h] at hs
  exact ⟨hs.2.1, fun j k' i' hj => hs.2.2 j k' i' (by have := mpJ_lt hj; omega) hj⟩
theorem nxC_none {ms : List Mg} {l : List Int} (h : nxC ms l l.length = none) : NoN ms l := by
  have hs := nxC_spec ms l l.length
  rw [h] at hs
  intro j
  cases hj : mpJ ms l j with
  | none => rfl
  | some x => rw [← hj]; exact hs j (by have := mpJ_lt hj; omega)
/-- All ids are known. -/
def KnJ (ws : List ByteArray) (l : List Int) : Prop := ∀ x ∈ l, ∃ w, wordM ws x = some w
/-- The words of ids, one behind the other. -/
def txJ (ws : List ByteArray) (l : List Int) : List UInt8 := l.flatMap fun x => ((wordM ws x).getD ⟨#[]⟩).data.toList
theorem txJ_append (ws : List ByteArray) (a b : List Int) : txJ ws (a ++ b) = txJ ws a ++ txJ ws b := by unfold txJ; rw [List.flatMap_append]
/-- The two at a place, and what became of them. -/
theorem repl_parts {l : List Int} {a : Nat} {i x y : Int} (hx : l[a]? = some x) (hy : l[a + 1]? = some y) : l = l.take a ++ x :: y :: l.drop (a + 2) ∧ repl l a i = l.take a ++ i :: l.drop (a + 2) := by
  have h1 := (List.getElem?_eq_some_iff.1 hx)
  have h2 := (List.getElem?_eq_some_iff.1 hy)
  obtain ⟨ha, hxe⟩ := h1
  obtain ⟨hb, hye⟩ := h2
  constructor
  · rw [← hxe, ← hye, List.getElem_cons_drop, List.getElem_cons_drop, List.take_append_drop]
  · unfold repl
    rw [List.eraseIdx_eq_take_drop_succ]
    apply List.ext_getElem?
    intro j
    rcases Nat.lt_trichotomy j a with h | h | h
    · rw [List.getElem?_append_left (by simp; omega), List.getElem?_append_left (by simp; omega), List.getElem?_take, List.getElem?_take, if_pos (by omega), if_pos h, List.getElem?_set, if_neg (by omega)]
    · subst h
      rw [List.getElem?_append_left (by simp; omega), List.getElem?_append_right (by simp; omega), List.getElem?_take, if_pos (by omega), List.getElem?_set]
      simp [ha, Nat.min_eq_left (Nat.le_of_lt ha)]
    · rw [List.getElem?_append_right (by simp; omega), List.getElem?_append_right (by simp; omega)]
      rw [List.length_take, List.length_take, List.length_set, Nat.min_eq_left (by omega), Nat.min_eq_left (by omega), List.getElem?_drop, List.getElem?_set, if_neg (by omega), show j - a = (j - a - 1) + 1 by omega, List.getElem?_cons_succ, List.getElem?_drop]
      congr 1
      try omega
theorem mergeM_get {ms : List Mg} {l r : Int} {k : Nat} {i : Int} (h : mergeM ms l r = some (k, i)) : ∃ x, ms[k]? = some x ∧ x.l = l ∧ x.r = r ∧ x.i = i := by
  unfold mergeM at h
  cases hr : rankM ms l r with
  | none => rw [hr] at h; cases h
  | some k' =>
    rw [hr] at h
    simp only [Option.bind_some] at h
    obtain ⟨x, hx, hp, _⟩ := rankM_get hr
    rw [hx] at h
    simp only [Option.map_some, Option.some.injEq, Prod.mk.injEq] at h
    obtain ⟨rfl, rfl⟩ := h
    unfold pairB at hp
    simp only [Bool.and_eq_true, beq_iff_eq] at hp
    exact ⟨x, hx, hp.1, hp.2, rfl⟩
theorem merge_word {ws : List ByteArray} {ms : List Mg} {A B C : List Sp} (hk : MOk ws ms A B C) {l r : Int} {k : Nat} {i : Int} (h : mergeM ms l r = some (k, i)) : wordM ws i = some (joinM ws l r) := by
  obtain ⟨x, hx, rfl, rfl, rfl⟩ := mergeM_get h
  have hc := hk.cuts k (List.getElem?_eq_some_iff.1 hx).1
  have hc0 : cutM ws ms k = 0 := by
    unfold badM at hc
    by_cases h0 : cutM ws ms k ≠ 0
    · rw [if_pos h0] at hc; exact absurd hc h0
    · simpa using h0
  unfold cutM at hc0
  rw [hx] at hc0
  simp only at hc0
  split at hc0
  · cases hc0
  · split at hc0
    · cases hc0
    · split at hc0
      · cases hc0
      · rename_i h3
        simpa using h3
theorem isN_parts {ms : List Mg} {l : List Int} {k a : Nat} {i : Int} (h : mpJ ms l a = some (k, i)) : ∃ x y, l[a]? = some x ∧ l[a + 1]? = some y ∧ mergeM ms x y = some (k, i) := by
  unfold mpJ at h
  cases h1 : l[a]? with
  | none => rw [h1] at h; cases h
  | some x =>
    cases h2 : l[a + 1]? with
    | none => rw [h1, h2] at h; cases h
    | some y =>
      rw [h1, h2] at h
      exact ⟨x, y, rfl, rfl, h⟩
theorem repl_words {ws : List ByteArray} {ms : List Mg} {A B C : List Sp} (hk : MOk ws ms A B C) {l : List Int} {k a : Nat} {i : Int} (h : mpJ ms l a = some (k, i)) (hl : KnJ ws l) : KnJ ws (repl l a i) ∧ txJ ws (repl l a i) = txJ ws l := by
  obtain ⟨x, y, hx, hy, hm⟩ := isN_parts h
  obtain ⟨h1, h2⟩ := repl_parts (i := i) hx hy
  have hw := merge_word hk hm
  refine ⟨fun z hz => ?_, ?_⟩
  · rw [h2] at hz
    rcases List.mem_append.1 hz with hz | hz
    · exact hl z (List.mem_of_mem_take hz)
    · rcases List.mem_cons.1 hz with rfl | hz
      · exact ⟨_, hw⟩
      · exact hl z (List.mem_of_mem_drop hz)
  · rw [h2]
    conv => rhs; rw [h1]
    rw [txJ_append, txJ_append]
    congr 1
    unfold txJ
    rw [List.flatMap_cons, List.flatMap_cons, List.flatMap_cons, hw, ← List.append_assoc]
    congr 1
    try (unfold joinM; simp [ByteArray.data_append])
theorem JR.words {ws : List ByteArray} {ms : List Mg} {A B C : List Sp} (hk : MOk ws ms A B C) {l : List Int} {st : List (Nat × Nat)} {r : List Int} (h : JR ms l st r) (hl : KnJ ws l) : KnJ ws r ∧ txJ ws r = txJ ws l := by
  induction h with
  | done _ => exact ⟨hl, rfl⟩
  | step h _ ih =>
    obtain ⟨h1, h2⟩ := repl_words hk h.1 hl
    obtain ⟨h3, h4⟩ := ih h1
    exact ⟨h3, h4.trans h2⟩
theorem JR.fin {ms : List Mg} {l : List Int} {st : List (Nat × Nat)} {r : List Int} (h : JR ms l st r) : NoN ms r := by
  induction h with
  | done h => exact h
  | step _ _ ih => exact ih
theorem JR.len {ms : List Mg} {l : List Int} {st : List (Nat × Nat)} {r : List Int} (h : JR ms l st r) : r.length + st.length = l.length := by
  induction h with
  | done _ => simp
  | step h _ ih =>
    have h1 := mpJ_lt h.1
    rw [repl_length h1] at ih
    rw [List.length_cons]
    omega
end Go.Proofs.YtjbdhakogbolkabDoor
end
