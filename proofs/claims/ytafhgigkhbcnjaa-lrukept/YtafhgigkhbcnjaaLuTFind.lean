/- lru's cache in memory; New, find, Len: their contracts. -/
import Derived.Test.YtafhgigkhbcnjaaLuTCut
import Derived.Test.YtafhgigkhbcnjaaLuTLike
import Derived.Lib.QuietBelow
namespace Go.Proofs.Ytafhgigkhbcnjaa.LU.T
open Go.RowKit Go.Joins Go.Sort Go.Maps
set_option linter.unusedVariables false
set_option linter.unusedSimpArgs false
set_option maxRecDepth 100000
/-- The cache's own block. -/
def CaAt (w : World) (x c mb kn : Nat) : Prop := w.heap[x]? = some (.cells #[.int .i64 c, .map (some mb), .pointer (some ⟨kn, 0, none⟩)] 63 (0, 0))
/-- A cache in memory: its block, its map, its knot, its entries from the one used last on. -/
structure Ca (w : World) (x c mb kn : Nat) (bl : List Nat) (key : Nat → κ) (val : Nat → Int) (f : κ → Option Nat) : Prop where
  own : CaAt w x c mb kn
  es : ∃ p q, Es w (kn :: bl) key val p q ∧ Rg p q kn bl
  nd : (kn :: bl).Nodup
  map : MapP w mb bl.length f
  tells : ∀ k b, f k = some b ↔ (b ∈ bl ∧ key b = k)
  kw : ∀ b ∈ bl, Kw (key b)
  le : bl.length ≤ 4097
  room : c ≤ 4096
section
variable {w w' : World} {x c mb kn : Nat} {bl : List Nat} {key : Nat → κ} {val : Nat → Int} {f : κ → Option Nat}
theorem CaAt.lt (h : CaAt w x c mb kn) : x < w.heap.size := (Array.getElem?_eq_some_iff.1 h).1
theorem Ca.kept (h : Ca w x c mb kn bl key val f) (h1 : w'.heap[x]? = w.heap[x]?) (h2 : w'.heap[mb]? = w.heap[mb]?) (h3 : ∀ e ∈ kn :: bl, w'.heap[e]? = w.heap[e]?) : Ca w' x c mb kn bl key val f := by
  obtain ⟨p, q, h4, h5⟩ := h.es
  exact ⟨h1.trans h.own, ⟨p, q, h4.kept h3, h5⟩, h.nd, h.map.kept h2, h.tells, h.kw, h.le, h.room⟩
theorem Ca.below (h : Ca w x c mb kn bl key val f) (hb : Below w.heap.size w w') : Ca w' x c mb kn bl key val f := by
  obtain ⟨p, q, h4, h5⟩ := h.es
  exact h.kept (hb.block x h.own.lt) (hb.block mb h.map.lt) (fun e he => hb.block e (h4.lt he))
theorem Ca.xmb (h : Ca w x c mb kn bl key val f) : x ≠ mb := by
  rintro rfl
  obtain ⟨es, cl, h1⟩ := h.map.isMap
  have h2 := h.own
  unfold CaAt at h2
  rw [h1] at h2
  cases h2
theorem Ca.xe (h : Ca w x c mb kn bl key val f) {e : Nat} (he : e ∈ kn :: bl) : e ≠ x := by
  rintro rfl
  obtain ⟨p, q, h1, _⟩ := h.es
  have h2 := h.own
  unfold CaAt at h2
  have h3 := h1 _ he
  rw [h2] at h3
  injection h3 with h3
  injection h3 with _ h3 _
  exact absurd h3 (by decide)
theorem Ca.mbe (h : Ca w x c mb kn bl key val f) {e : Nat} (he : e ∈ kn :: bl) : e ≠ mb := by
  rintro rfl
  obtain ⟨p, q, h1, _⟩ := h.es
  obtain ⟨es, cl, h2⟩ := h.map.isMap
  have h3 := h1 _ he
  rw [h2] at h3
  cases h3
theorem Ca.keys (h : Ca w x c mb kn bl key val f) : (bl.map key).Nodup := by
  have hn := (List.nodup_cons.1 h.nd).2
  rw [List.nodup_iff_pairwise_ne] at hn ⊢
  rw [List.pairwise_map]
  refine hn.imp_of_mem fun ha hb hne e => hne ?_
  have h1 := (h.tells _ _).2 ⟨ha, rfl⟩
  have h2 := (h.tells _ _).2 ⟨hb, rfl⟩
  rw [e, h2] at h1
  exact (Option.some.inj h1).symm
end
theorem len_any (x c mb kn : Nat) (bl : List Nat) (key : Nat → κ) (val : Nat → Int) (f : κ → Option Nat) (W : World) (h : Ca W x c mb kn bl key val f) :
    Calls Try.prog 10 #[.pointer (some ⟨x, 0, none⟩)] W fun e w' => e = .returned (.int .i64 (bl.length : Nat)) ∧ w' = W := by
  have ho := h.own
  unfold CaAt at ho
  have c1 := cell_of_block ho (i := 1)
  have HL := h.map.len
  clear ho h
  go_enter Try.func10, Try.ntmps10
  go_wp2_with fail
  go_ret
  exact ⟨rfl, rfl⟩
set_option maxHeartbeats 1000000 in
theorem find_any (k : κ) (hk : Kw k) (x c mb kn : Nat) (bl : List Nat) (key : Nat → κ) (val : Nat → Int) (f : κ → Option Nat) (W : World) (h : Ca W x c mb kn bl key val f) :
    Calls Try.prog 27 #[.pointer (some ⟨x, 0, none⟩), kv k] W fun e w' => e = .returned (pv (f k)) ∧ Below W.heap.size W w' := by
  have HL := like_any k
  have HG : ∀ w1, Below W.heap.size W w1 → (Instr.lookup 61 (.map (some mb)) (kv k) false).run Try.prog w1 = .ok (pv (f k)) w1 := fun w1 hb => (h.below hb).map.get hk
  have hb0 := (Below.refl W.heap.size W).alloc (Nat.le_refl _) (.cells #[.string k] 9)
  have ho := h.own
  unfold CaAt at ho
  have c1 := cell_of_block ho (i := 1)
  have hlt := h.own.lt
  have HO : Hid (W.heap[x]? = some (.cells #[.int .i64 c, .map (some mb), .pointer (some ⟨kn, 0, none⟩)] 63 (0, 0))) := ho
  clear ho h hk
  obtain ⟨g, hg⟩ : ∃ g, g = f k := ⟨_, rfl⟩
  rw [← hg] at HG ⊢
  clear hg
  unfold kv at HL HG ⊢
  go_enter Try.func27, Try.ntmps27
  go_wp2_with fail
  refine (HL W).mono ?_
  rintro e w1 ⟨rfl, hb2⟩
  have c4 : w1.cell? ⟨x, 1, none⟩ = some (.map (some mb)) := (cell_of_block ((hb2.block x hlt).trans HO.out) (i := 1)).trans rfl
  clear c1
  go_upto_region 3 with fail
  have HG1 := HG w1 hb2
  clear HG HL
  go_wp2_with fail
  go_ret
  exact ⟨rfl, hb2⟩
end Go.Proofs.Ytafhgigkhbcnjaa.LU.T
