/- tesserabook.House: its contract. -/
import Derived.Test.YtddeamecgbdajaaDoorCCheck
namespace Go.Proofs.YtddeamecgbdajaaDoor
open Go.RowKit Go.Sort Go.Joins
def houA : List Sp := [⟨97, 122⟩, ⟨233, 233⟩]
def houB : List Sp := [⟨48, 57⟩]
def houC : List Sp := [⟨9, 10⟩, ⟨32, 32⟩]
set_option maxRecDepth 100000 in
set_option maxHeartbeats 2000000 in
theorem house_any (w : World) : Calls Tryd.prog 26 #[] w fun e w' => ∃ s0 s1 a b c, e = .returned (.agg #[.slice s0 6 6, .slice s1 6 6, .slice a 2 2, .slice b 1 1, .slice c 2 2]) ∧ SPS w' a houA ∧ SPS w' b houB ∧ SPS w' c houC ∧ Below w.heap.size w w' := by
  go_enter Tryd.func26, Tryd.ntmps26
  go_wp2_with fail
  generalize hV : ((w.alloc _).alloc _).alloc _ = V
  have hVs : V.heap.size = w.heap.size + 1 + 1 + 1 := by rw [← hV]; simp
  have hVb : Below w.heap.size w V := by rw [← hV]; exact (((Below.refl _ w).alloc (Nat.le_refl _) _).alloc (by simp) _).alloc (by simp; omega) _
  have hx := heap_alloc_new w (.cells #[.slice (some ⟨w.heap.size + 1, 0, none⟩) 6 6, .slice (some ⟨w.heap.size + 1 + 1, 0, none⟩) 6 6, .slice (some ⟨w.heap.size + 1 + 1 + 1, 0, none⟩) 2 2, .slice (some ⟨w.heap.size + 1 + 1 + 1 + 1, 0, none⟩) 1 1, .slice (some ⟨w.heap.size + 1 + 1 + 1 + 1 + 1, 0, none⟩) 2 2] 47)
  have hxV : V.heap[w.heap.size]? = some (.cells #[.slice (some ⟨w.heap.size + 1, 0, none⟩) 6 6, .slice (some ⟨w.heap.size + 1 + 1, 0, none⟩) 6 6, .slice (some ⟨w.heap.size + 1 + 1 + 1, 0, none⟩) 2 2, .slice (some ⟨w.heap.size + 1 + 1 + 1 + 1, 0, none⟩) 1 1, .slice (some ⟨w.heap.size + 1 + 1 + 1 + 1 + 1, 0, none⟩) 2 2] 47 (0, 0)) := by
    rw [← hV]
    exact ((((Below.refl _ _).alloc (Nat.le_refl _) _).alloc (by simp) _).block w.heap.size (by simp)).trans hx
  clear hx hV
  have eA := SPS.new V houA 29
  rw [hVs] at eA
  obtain ⟨V1, hV1⟩ : ∃ V1, V1 = V.alloc (.cells #[.int .i32 97, .int .i32 122, .int .i32 233, .int .i32 233] 29) := ⟨_, rfl⟩
  have eA : SPS V1 (some ⟨w.heap.size + 1 + 1 + 1, 0, none⟩) houA := by rw [hV1]; exact eA
  have h1s : V1.heap.size = w.heap.size + 1 + 1 + 1 + 1 := by rw [hV1]; simp; omega
  have h1b : Below V.heap.size V V1 := by rw [hV1]; exact (Below.refl _ _).alloc (Nat.le_refl _) _
  have eB := SPS.new V1 houB 29
  rw [h1s] at eB
  obtain ⟨V2, hV2⟩ : ∃ V2, V2 = V1.alloc (.cells #[.int .i32 48, .int .i32 57] 29) := ⟨_, rfl⟩
  have eB : SPS V2 (some ⟨w.heap.size + 1 + 1 + 1 + 1, 0, none⟩) houB := by rw [hV2]; exact eB
  have h2s : V2.heap.size = w.heap.size + 1 + 1 + 1 + 1 + 1 := by rw [hV2]; simp; omega
  have h2b : Below V1.heap.size V1 V2 := by rw [hV2]; exact (Below.refl _ _).alloc (Nat.le_refl _) _
  have eC := SPS.new V2 houC 29
  rw [h2s] at eC
  obtain ⟨V3, hV3⟩ : ∃ V3, V3 = V2.alloc (.cells #[.int .i32 9, .int .i32 10, .int .i32 32, .int .i32 32] 29) := ⟨_, rfl⟩
  have eC : SPS V3 (some ⟨w.heap.size + 1 + 1 + 1 + 1 + 1, 0, none⟩) houC := by rw [hV3]; exact eC
  have h3b : Below V2.heap.size V2 V3 := by rw [hV3]; exact (Below.refl _ _).alloc (Nat.le_refl _) _
  rw [← hV1, ← hV2, ← hV3]
  clear hV1 hV2 hV3
  have hB := hVb.trans ((h1b.mono hVb.size).trans ((h2b.trans (h3b.mono h2b.size)).mono (by omega)))
  have hxF := (((h1b.trans ((h2b.trans (h3b.mono h2b.size)).mono h1b.size)).block _ (by omega)).trans hxV)
  have y0 := cell_of_block hxF (i := 0)
  have y1 := cell_of_block hxF (i := 1)
  have y2 := cell_of_block hxF (i := 2)
  have y3 := cell_of_block hxF (i := 3)
  have y4 := cell_of_block hxF (i := 4)
  refine bodyPost_ret (v := .agg #[.slice (some ⟨w.heap.size + 1, 0, none⟩) 6 6, .slice (some ⟨w.heap.size + 1 + 1, 0, none⟩) 6 6, .slice (some ⟨w.heap.size + 1 + 1 + 1, 0, none⟩) 2 2, .slice (some ⟨w.heap.size + 1 + 1 + 1 + 1, 0, none⟩) 1 1, .slice (some ⟨w.heap.size + 1 + 1 + 1 + 1 + 1, 0, none⟩) 2 2]) (by simp [results, Tryd.results26, go_sem, y0, y1, y2, y3, y4]) rfl ⟨_, _, _, _, _, rfl, (eA.below h2b).below h3b, eB.below h3b, eC, hB⟩
end Go.Proofs.YtddeamecgbdajaaDoor
