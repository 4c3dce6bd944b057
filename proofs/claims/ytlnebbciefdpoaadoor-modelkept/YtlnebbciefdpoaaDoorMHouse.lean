/- tesserabook.House: its contract. -/
import Derived.Test.YtlnebbciefdpoaaDoorMOf
namespace Go.Proofs.YtlnebbciefdpoaaDoor
open Go.RowKit Go.Sort Go.Joins
def houA : List Sp := [⟨97, 122⟩, ⟨233, 233⟩]
def houB : List Sp := [⟨48, 57⟩]
def houC : List Sp := [⟨9, 10⟩, ⟨32, 32⟩]
def houW : List ByteArray := [⟨#[97, 98]⟩, ⟨#[32, 97]⟩, ⟨#[116, 104]⟩, ⟨#[116, 104, 101]⟩, ⟨#[104, 101]⟩, ⟨#[195, 169]⟩]
def houM : List Mg := [⟨97, 98, 256⟩, ⟨32, 97, 257⟩, ⟨116, 104, 258⟩, ⟨258, 101, 259⟩, ⟨104, 101, 260⟩, ⟨195, 169, 261⟩]
theorem WSP.new (w : World) (l : List ByteArray) (t : TypeId) : WSP (w.alloc (.cells (cellsW l).toArray t)) (some ⟨w.heap.size, 0, none⟩) l := by
  refine .inr ⟨w.heap.size, 0, rfl, fun i x hx => ?_⟩
  rw [cell_of_block (heap_alloc_new _ _), Nat.zero_add]
  simpa using cellsW_get hx
theorem WSP.at_new {X : World} {g : Nat} {l : List ByteArray} {t : TypeId} (hs : X.heap.size = g) : WSP (X.alloc (.cells (cellsW l).toArray t)) (some ⟨g, 0, none⟩) l := hs ▸ WSP.new X l t
theorem MSP.new (w : World) (l : List Mg) (t : TypeId) : MSP (w.alloc (.cells (cellsM l).toArray t)) (some ⟨w.heap.size, 0, none⟩) l := by
  refine .inr ⟨w.heap.size, 0, rfl, fun i x hx => ?_⟩
  obtain ⟨h0, h1, h2⟩ := cellsM_get l i x hx
  unfold MgAt
  rw [cell_of_block (heap_alloc_new _ _), cell_of_block (heap_alloc_new _ _), cell_of_block (heap_alloc_new _ _), Nat.zero_add]
  exact ⟨by simpa using h0, by simpa using h1, by simpa using h2⟩
theorem MSP.at_new {X : World} {g : Nat} {l : List Mg} {t : TypeId} (hs : X.heap.size = g) : MSP (X.alloc (.cells (cellsM l).toArray t)) (some ⟨g, 0, none⟩) l := hs ▸ MSP.new X l t
set_option maxRecDepth 100000 in
set_option maxHeartbeats 2000000 in
theorem house_any (w : World) : Calls Tryd.prog 38 #[] w fun e w' => ∃ s0 s1 a b c, e = .returned (.agg #[.slice s0 6 6, .slice s1 6 6, .slice a 2 2, .slice b 1 1, .slice c 2 2]) ∧ WSP w' s0 houW ∧ MSP w' s1 houM ∧ SPS w' a houA ∧ SPS w' b houB ∧ SPS w' c houC ∧ Below w.heap.size w w' := by
  go_enter Tryd.func38, Tryd.ntmps38
  go_wp2_with fail
  generalize hV : ((w.alloc _).alloc _).alloc _ = V
  have hVs : V.heap.size = w.heap.size + 1 + 1 + 1 := by rw [← hV]; simp
  have hVb : Below w.heap.size w V := by rw [← hV]; exact (((Below.refl _ w).alloc (Nat.le_refl _) _).alloc (by simp) _).alloc (by simp; omega) _
  have hx := heap_alloc_new w (.cells #[.slice (some ⟨w.heap.size + 1, 0, none⟩) 6 6, .slice (some ⟨w.heap.size + 1 + 1, 0, none⟩) 6 6, .slice (some ⟨w.heap.size + 1 + 1 + 1, 0, none⟩) 2 2, .slice (some ⟨w.heap.size + 1 + 1 + 1 + 1, 0, none⟩) 1 1, .slice (some ⟨w.heap.size + 1 + 1 + 1 + 1 + 1, 0, none⟩) 2 2] 42)
  have hxV : V.heap[w.heap.size]? = some (.cells #[.slice (some ⟨w.heap.size + 1, 0, none⟩) 6 6, .slice (some ⟨w.heap.size + 1 + 1, 0, none⟩) 6 6, .slice (some ⟨w.heap.size + 1 + 1 + 1, 0, none⟩) 2 2, .slice (some ⟨w.heap.size + 1 + 1 + 1 + 1, 0, none⟩) 1 1, .slice (some ⟨w.heap.size + 1 + 1 + 1 + 1 + 1, 0, none⟩) 2 2] 42 (0, 0)) := by
    rw [← hV]
    exact ((((Below.refl _ _).alloc (Nat.le_refl _) _).alloc (by simp) _).block w.heap.size (by simp)).trans hx
  have eW : WSP V (some ⟨w.heap.size + 1, 0, none⟩) houW := by
    rw [← hV]
    exact (WSP.at_new (l := houW) (by simp)).below (box_below _ _)
  have eM : MSP V (some ⟨w.heap.size + 1 + 1, 0, none⟩) houM := by
    rw [← hV]
    exact MSP.at_new (l := houM) (by simp)
  clear hx hV
  have eA := SPS.new V houA 30
  rw [hVs] at eA
  obtain ⟨V1, hV1⟩ : ∃ V1, V1 = V.alloc (.cells #[.int .i32 97, .int .i32 122, .int .i32 233, .int .i32 233] 30) := ⟨_, rfl⟩
  have eA : SPS V1 (some ⟨w.heap.size + 1 + 1 + 1, 0, none⟩) houA := by rw [hV1]; exact eA
  have h1s : V1.heap.size = w.heap.size + 1 + 1 + 1 + 1 := by rw [hV1]; simp; omega
  have h1b : Below V.heap.size V V1 := by rw [hV1]; exact (Below.refl _ _).alloc (Nat.le_refl _) _
  have eB := SPS.new V1 houB 30
  rw [h1s] at eB
  obtain ⟨V2, hV2⟩ : ∃ V2, V2 = V1.alloc (.cells #[.int .i32 48, .int .i32 57] 30) := ⟨_, rfl⟩
  have eB : SPS V2 (some ⟨w.heap.size + 1 + 1 + 1 + 1, 0, none⟩) houB := by rw [hV2]; exact eB
  have h2s : V2.heap.size = w.heap.size + 1 + 1 + 1 + 1 + 1 := by rw [hV2]; simp; omega
  have h2b : Below V1.heap.size V1 V2 := by rw [hV2]; exact (Below.refl _ _).alloc (Nat.le_refl _) _
  have eC := SPS.new V2 houC 30
  rw [h2s] at eC
  obtain ⟨V3, hV3⟩ : ∃ V3, V3 = V2.alloc (.cells #[.int .i32 9, .int .i32 10, .int .i32 32, .int .i32 32] 30) := ⟨_, rfl⟩
  have eC : SPS V3 (some ⟨w.heap.size + 1 + 1 + 1 + 1 + 1, 0, none⟩) houC := by rw [hV3]; exact eC
  have h3b : Below V2.heap.size V2 V3 := by rw [hV3]; exact (Below.refl _ _).alloc (Nat.le_refl _) _
  rw [← hV1, ← hV2, ← hV3]
  clear hV1 hV2 hV3
  have hB := hVb.trans ((h1b.mono hVb.size).trans ((h2b.trans (h3b.mono h2b.size)).mono (by omega)))
  have hxF := (((h1b.trans ((h2b.trans (h3b.mono h2b.size)).mono h1b.size)).block _ (by omega)).trans hxV)
  have y0 := cell_of_block hxF (i := 0)
  have y1 := cell_of_block hxF (i := 1)
  have y2 := cell_of_block hxF (i := 2)
  have y3 := cell_of_block hxF (i := 3)
  have y4 := cell_of_block hxF (i := 4)
  refine bodyPost_ret (v := .agg #[.slice (some ⟨w.heap.size + 1, 0, none⟩) 6 6, .slice (some ⟨w.heap.size + 1 + 1, 0, none⟩) 6 6, .slice (some ⟨w.heap.size + 1 + 1 + 1, 0, none⟩) 2 2, .slice (some ⟨w.heap.size + 1 + 1 + 1 + 1, 0, none⟩) 1 1, .slice (some ⟨w.heap.size + 1 + 1 + 1 + 1 + 1, 0, none⟩) 2 2]) (by simp [results, Tryd.results38, go_sem, y0, y1, y2, y3, y4]) rfl ⟨_, _, _, _, _, rfl, ((eW.below h1b).below h2b).below h3b, ((eM.below h1b).below h2b).below h3b, (eA.below h2b).below h3b, eB.below h3b, eC, hB⟩
end Go.Proofs.YtlnebbciefdpoaaDoor
