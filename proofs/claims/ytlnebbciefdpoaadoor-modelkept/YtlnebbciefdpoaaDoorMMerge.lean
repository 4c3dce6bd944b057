/- model.Model.Merge, tesseraref5.Merge; Longest, Table: their contracts; what a model answers. -/
import Derived.Test.YtlnebbciefdpoaaDoorMOf
namespace Go.Proofs.YtlnebbciefdpoaaDoor
open Go.RowKit Go.Sort Go.Joins Go.Maps Go.WideMaps
set_option linter.unusedVariables false
/-- What Merge answers. -/
def mrV (o : Option (Nat × Int)) : Value := .tuple #[.int .i64 ((o.map fun p => (p.1 : Int)).getD 0), .int .i64 ((o.map (·.2)).getD 0), .bool o.isSome]
def mergeM (ms : List Mg) (l r : Int) : Option (Nat × Int) := (rankM ms l r).bind fun k => (ms[k]?).map fun x => (k, x.i)
theorem rankM_get {ms : List Mg} {l r : Int} {k : Nat} (h : rankM ms l r = some k) : ∃ x, ms[k]? = some x ∧ pairB x l r = true ∧ ∀ (j : Nat) (y : Mg), j < k → ms[j]? = some y → pairB y l r = false := by
  unfold rankM at h
  obtain ⟨hk, h1, h2⟩ := List.findIdx?_eq_some_iff_getElem.1 h
  refine ⟨ms[k], List.getElem?_eq_getElem hk, h1, fun j y hj hy => ?_⟩
  obtain ⟨hjl, rfl⟩ := List.getElem?_eq_some_iff.1 hy
  simpa using h2 j hj
theorem rankM_none {ms : List Mg} {l r : Int} (h : rankM ms l r = none) : ∀ (j : Nat) (y : Mg), ms[j]? = some y → pairB y l r = false := by
  unfold rankM at h
  intro j y hy
  have := List.findIdx?_eq_none_iff.1 h y (List.mem_of_getElem? hy)
  simpa using this
theorem rankM_some {ms : List Mg} {l r : Int} {k : Nat} {x : Mg} (hx : ms[k]? = some x) (hp : pairB x l r = true) (hb : ∀ (j : Nat) (y : Mg), j < k → ms[j]? = some y → pairB y l r = false) : rankM ms l r = some k := by
  unfold rankM
  rw [List.findIdx?_eq_some_iff_getElem]
  obtain ⟨hk, rfl⟩ := List.getElem?_eq_some_iff.1 hx
  refine ⟨hk, hp, fun j hj => ?_⟩
  have := hb j _ hj (List.getElem?_eq_getElem (by omega))
  simp [this]
theorem rankM_nil {ms : List Mg} {l r : Int} (h : ∀ (j : Nat) (y : Mg), ms[j]? = some y → pairB y l r = false) : rankM ms l r = none := by
  unfold rankM
  rw [List.findIdx?_eq_none_iff]
  intro y hy
  obtain ⟨j, hj⟩ := List.mem_iff_getElem?.1 hy
  simpa using h j y hj
theorem ModelAt.word {w : World} {lo g : Nat} {ws : List ByteArray} {ms : List Mg} {A B C : List Sp} (h : ModelAt w lo g ws ms A B C) : ∃ a0 c0, w.cell? ⟨g, 0, none⟩ = some (.slice a0 ws.length c0) ∧ WSP w a0 ws := by
  obtain ⟨a0, c0, a1, c1, a2, c2, a3, c3, a4, c4, gt, gr, h1, h2, h3, h4, h5, h6⟩ := h
  exact ⟨a0, c0, cell_of_block h3 0, h4.words.row.sp⟩
theorem mword_any (g : Nat) (lo : Nat) (ws : List ByteArray) (ms : List Mg) (A B C : List Sp) (id : Int) (w : World) (hn : ws.length ≤ 4611686018427387904) (h : ModelAt w lo g ws ms A B C) :
    Calls Tryd.prog 12 #[.pointer (some ⟨g, 0, none⟩), .int .i64 id] w fun e w' => e = .returned (wdV (wordM ws id)) ∧ Below w.heap.size w w' := by
  obtain ⟨a0, c0, h1, h2⟩ := h.word
  exact word_any g c0 a0 ws id w hn h1 h2
theorem msize_any (g : Nat) (lo : Nat) (ws : List ByteArray) (ms : List Mg) (A B C : List Sp) (w : World) (hn : ws.length ≤ 4611686018427387904) (h : ModelAt w lo g ws ms A B C) :
    Calls Tryd.prog 10 #[.pointer (some ⟨g, 0, none⟩)] w fun e w' => e = .returned (.int .i64 (256 + (ws.length : Int))) ∧ w' = w := by
  obtain ⟨a0, c0, h1, h2⟩ := h.word
  exact size_any g ws.length c0 a0 w hn h1
set_option maxHeartbeats 400000 in
theorem mlongest_any (g : Nat) (lo : Nat) (ws : List ByteArray) (ms : List Mg) (A B C : List Sp) (w : World) (h : ModelAt w lo g ws ms A B C) :
    Calls Tryd.prog 11 #[.pointer (some ⟨g, 0, none⟩)] w fun e w' => e = .returned (.int .i64 (longM ws : Nat)) ∧ w' = w := by
  obtain ⟨a0, c0, a1, c1, a2, c2, a3, c3, a4, c4, gt, gr, h1, h2, h3, h4, h5, h6⟩ := h
  have x7 := cell_of_block h3 7
  clear h1 h2 h3 h4 h5 h6
  go_enter Tryd.func11, Tryd.ntmps11
  go_wp2_with fail
  go_ret
  exact ⟨rfl, rfl⟩
set_option maxHeartbeats 400000 in
theorem mtable_any (g : Nat) (lo : Nat) (ws : List ByteArray) (ms : List Mg) (A B C : List Sp) (w : World) (h : ModelAt w lo g ws ms A B C) :
    Calls Tryd.prog 24 #[.pointer (some ⟨g, 0, none⟩)] w fun e w' => ∃ gt, e = .returned (.pointer (some ⟨gt, 0, none⟩)) ∧ OwnT w lo gt A B C ∧ w' = w := by
  obtain ⟨a0, c0, a1, c1, a2, c2, a3, c3, a4, c4, gt, gr, h1, h2, h3, h4, h5, h6⟩ := h
  have x5 := cell_of_block h3 5
  have H5 : Hid (OwnT w lo gt A B C) := h5
  clear h1 h2 h3 h4 h5 h6
  go_enter Tryd.func24, Tryd.ntmps24
  go_wp2_with fail
  go_ret
  exact ⟨gt, rfl, H5.out, rfl⟩
set_option maxRecDepth 100000 in
set_option maxHeartbeats 1000000 in
theorem merge_any (g lo : Nat) (ws : List ByteArray) (ms : List Mg) (A B C : List Sp) (l r : Int) (w : World) (hl : W64 l) (hr : W64 r) (h : ModelAt w lo g ws ms A B C) :
    Calls Tryd.prog 19 #[.pointer (some ⟨g, 0, none⟩), .int .i64 l, .int .i64 r] w fun e w' => e = .returned (mrV (mergeM ms l r)) ∧ Below w.heap.size w w' := by
  obtain ⟨a0, c0, a1, c1, a2, c2, a3, c3, a4, c4, gt, gr, h1, h2, h3, h4, h5, h6⟩ := h
  have x1 := cell_of_block h3 1
  have x6 := cell_of_block h3 6
  have hkey := keyP hl hr
  unfold pairV at hkey
  have hM := h4.merges.row.sp
  have hmc := h4.merges.le
  have HM6 : Hid (MapI w 99 pairV gr ms.length (rankF ms)) := h6
  have hk2 : keyOf Tryd.prog 99 (pairV (l, r)) = some (.string (keyBytes [.int .i64 l, .int .i64 r])) := hkey
  have HK2 : Hid (keyOf Tryd.prog 99 (pairV (l, r)) = some (.string (keyBytes [.int .i64 l, .int .i64 r]))) := hk2
  clear h1 h2 h3 h4 h5 h6 hkey hk2
  cases hq : rankM ms l r with
  | none =>
    have hF : rankF ms (l, r) = none := by unfold rankF; simp [hq]
    have HR : Hid (mergeM ms l r = none) := (by unfold mergeM; rw [hq]; rfl : mergeM ms l r = none)
    have HF : Hid (rankF ms (l, r) = none) := hF
    rw [HR.out]
    clear hq hF hM
    go_enter Tryd.func19, Tryd.ntmps19
    go_wp2_with (first | (at_lookup; refine wpList_look _ rfl _ _ 83 rfl lawP Tryd.underlying83 rfl HM6.out (l, r) _ rfl HK2.out ?_; simp only [HF.out, Option.getD_none, Option.isSome_none]) | fail)
    exact bodyPost_ret (v := .tuple #[.int .i64 0, .int .i64 0, .bool false]) (by simp [results, Tryd.results19, go_sem]) rfl ⟨rfl, Below.refl _ _⟩
  | some k =>
    obtain ⟨x, hx, hp, hb⟩ := rankM_get hq
    have hF : rankF ms (l, r) = some (k : Int) := by unfold rankF; simp [hq]
    have HR : Hid (mergeM ms l r = some (k, x.i)) := (by unfold mergeM; rw [hq]; simp [hx] : mergeM ms l r = some (k, x.i))
    have HF : Hid (rankF ms (l, r) = some (k : Int)) := hF
    obtain ⟨b, off, rfl, hc⟩ := hM.at_ hx
    have hkl : k < ms.length := (List.getElem?_eq_some_iff.1 hx).1
    obtain ⟨-, -, hc2⟩ := hc
    rw [HR.out]
    clear hq hF hM hx hp hb
    go_enter Tryd.func19, Tryd.ntmps19
    go_wp2_with (first | (at_lookup; refine wpList_look _ rfl _ _ 83 rfl lawP Tryd.underlying83 rfl HM6.out (l, r) _ rfl HK2.out ?_; simp only [HF.out, Option.getD_some, Option.isSome_some]) | fail)
    go_quiet (fail)
    go_wp2_with fail
    exact bodyPost_ret (v := .tuple #[.int .i64 (k : Nat), .int .i64 x.i, .bool true]) (by simp [results, Tryd.results19, go_sem]) rfl ⟨rfl, below_drawn _ _⟩
end Go.Proofs.YtlnebbciefdpoaaDoor
