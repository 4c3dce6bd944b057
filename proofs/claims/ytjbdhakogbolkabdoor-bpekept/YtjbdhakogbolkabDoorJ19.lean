import Derived.Test.YtjbdhakogbolkabDoorJ18
section
/- tesserabook.Book of numbers: what it holds; Keep, Stays, Apart: their contracts. -/
namespace Go.Proofs.YtjbdhakogbolkabDoor.BKI
open Go.RowKit Go.Sort
open Go.Joins
set_option linter.unusedVariables false
def SRow (w : World) (base : Nat) (v : Value) (xs : List Value) : Prop :=
  (v = .slice none 0 0 ∧ xs = []) ∨ ∃ g off cap cur, v = .slice (some ⟨g, off, none⟩) xs.length cap ∧ base ≤ g ∧ w.heap[g]? = some (.cells cur 35 (0, 0)) ∧ off + cap ≤ cur.size ∧ cap ≤ maxLen ∧ xs.length ≤ cap ∧
    ∀ j, j < xs.length → cur[off + j]? = xs[j]?
theorem SRow.nil (w : World) (base : Nat) : SRow w base (.slice none 0 0) [] := .inl ⟨rfl, rfl⟩
/-- Whatever leaves its block leaves it. -/
theorem SRow.kept {w w' : World} {base : Nat} {v : Value} {xs : List Value} (h : SRow w base v xs) (hk : ∀ g, v.ownBlock = some g → w'.heap[g]? = w.heap[g]?) : SRow w' base v xs := by
  rcases h with h | ⟨g, off, cap, cur, rfl, hb, hh, r⟩
  · exact .inl h
  · exact .inr ⟨g, off, cap, cur, rfl, hb, by rw [hk g rfl]; exact hh, r⟩
theorem SRow.lt {w : World} {base : Nat} {v : Value} {xs : List Value} (h : SRow w base v xs) : ∀ g, v.ownBlock = some g → base ≤ g ∧ g < w.heap.size := by
  intro g hg
  rcases h with ⟨rfl, _⟩ | ⟨g', off, cap, cur, rfl, hb, hh, _⟩
  · cases hg
  · cases hg; exact ⟨hb, (Array.getElem?_eq_some_iff.1 hh).1⟩
theorem SRow.form {w : World} {base : Nat} {v : Value} {xs : List Value} (h : SRow w base v xs) (h0 : 0 < xs.length) :
    ∃ g off cap, v = .slice (some ⟨g, off, none⟩) xs.length cap ∧ base ≤ g ∧ g < w.heap.size ∧ xs.length ≤ cap ∧ cap ≤ maxLen ∧ ∀ j (hj : j < xs.length), w.cell? ⟨g, off + j, none⟩ = some xs[j] := by
  rcases h with ⟨_, rfl⟩ | ⟨g, off, cap, cur, hv, hb, hh, hs, hm, hl, hc⟩
  · simp at h0
  · refine ⟨g, off, cap, hv, hb, (Array.getElem?_eq_some_iff.1 hh).1, hl, hm, fun j hj => ?_⟩
    rw [cell_of_block hh, hc j hj, List.getElem?_eq_getElem hj]
/-- The front one is cut off. -/
theorem SRow.tail {w : World} {base g off n cap : Nat} {x : Value} {xs : List Value} (h : SRow w base (.slice (some ⟨g, off, none⟩) n cap) (x :: xs)) (_hn : n = xs.length + 1) : SRow w base (.slice (some ⟨g, off + 1, none⟩) xs.length (cap - 1)) xs := by
  rcases h with ⟨h, _⟩ | ⟨g', off', cap', cur, hv, hb, hh, hs, hm, hl, hc⟩
  · simp at h
  · simp only [Value.slice.injEq, Option.some.injEq, Addr.mk.injEq, and_true] at hv
    obtain ⟨⟨rfl, rfl⟩, _, rfl⟩ := hv
    simp only [List.length_cons] at hl hc
    refine .inr ⟨g, off + 1, cap - 1, cur, rfl, hb, hh, by omega, by omega, by omega, fun j hj => ?_⟩
    have := hc (j + 1) (by omega)
    rw [show off + 1 + j = off + (j + 1) from by omega, this]
    simp
theorem infoL : (Tryd.prog.info? 35).map (fun i => (i.zero, i.size, i.bytes)) = some (some (.slice none 0 0), 1, 24) := by kernel_rfl
theorem ownsRow_srow {w : World} {base : Nat} {v : Value} {xs : List Value} (h : w.ownsRow base 35 1 v xs.length xs) : SRow w base v xs := by
  rcases h.2 with ⟨hv, hn⟩ | ⟨g, cap, cur, hv, hb, hh, hn, hm, hs, ht⟩
  · exact .inl ⟨hv, List.eq_nil_of_length_eq_zero hn⟩
  · refine .inr ⟨g, 0, cap, cur, hv, hb, hh, by omega, hm, hn, fun j hj => ?_⟩
    have e : xs[j]? = (cur.toList.take (xs.length * 1))[j]? := by rw [ht]
    rw [e, List.getElem?_take, if_pos (by omega), Nat.zero_add]
    simp
/-- One more behind. -/
theorem run_push (W : World) (base : Nat) (v : Value) (xs : List Value) (X : Value) (h : Nat) (c : Nat) (hX : X.oneCell' = true) (hrow : SRow W base v xs) (hx : W.cell? ⟨h, 0, none⟩ = some X) (hb : base ≤ W.heap.size) (hsz : xs.length ≤ 1000000) :
    ∃ v' W', (Builtin.append_ #[32, 32] 32 #[v, .slice (some ⟨h, 0, none⟩) 1 c]).run Tryd.prog W = .ok v' W' ∧ SRow W' base v' (xs ++ [X]) ∧ W.grownBy W' v.ownBlock ∧
      (v'.ownBlock = v.ownBlock ∨ ∃ g, v'.ownBlock = some g ∧ W.heap.size ≤ g) := by
  obtain ⟨i0, hi, hz0, hz1, hz2⟩ := info_parts infoL
  have hnews : ∀ j u, [X][j]? = some u → W.cell? ((⟨h, 0, none⟩ : Addr).add j) = some u := by
    intro j u hu
    match j, hu with
    | 0, hu => simp at hu; subst hu; simpa [Addr.add] using hx
  have h1 : ∀ u ∈ [X], u.oneCell' = true := by intro u hu; simp at hu; subst hu; exact hX
  have hsrc := Src.ofSlice (P := Tryd.prog) (w := W) (size := 1) (tx := 32) (e' := 35) Tryd.underlying32 ⟨h, 0, none⟩ 1 c [X] rfl hnews h1
  rcases hrow with ⟨rfl, rfl⟩ | ⟨g, off, cap, cur, rfl, hbg, hh, hs, hm, hl, hc⟩
  · obtain ⟨v', w', r1, r2, r3, r4⟩ := run_append_own (P := Tryd.prog) W W.heap.size 32 32 35 i0 (.slice none 0 0) 1 24 Tryd.underlying32 hi hz0 hz1 hz2 rfl (by decide) (.slice none 0 0) 0 [] (World.ownsRow_nil W _ _ _) ⟨h, 0, none⟩ 1 c [X] rfl hnews h1 (by decide) (by decide) (Nat.le_refl _)
    have r5 : SRow w' W.heap.size v' [X] := ownsRow_srow r2
    obtain ⟨g, off, cap, hv, hg, _⟩ := r5.form (by simp)
    refine ⟨v', w', r1, ?_, r3, .inr ⟨g, by rw [hv]; rfl, hg⟩⟩
    rcases r5 with h | ⟨g, off, cap, cur, e1, e2, e3⟩
    · exact .inl h
    · exact .inr ⟨g, off, cap, cur, e1, Nat.le_trans hb e2, e3⟩
  · by_cases hroom : xs.length + 1 ≤ cap
    · have hcellS : (W.cell? ⟨g, off + xs.length, none⟩).isSome = true := by
        rw [cell_of_block hh, Array.getElem?_eq_getElem (by omega)]; rfl
      have hr := run_append_room_src (P := Tryd.prog) W 32 32 32 35 i0 Tryd.underlying32 hi g off xs.length cap _ 1 [X] (by rw [hz1]; exact hsrc) hroom (fun j hj => by
        have : j = 0 := by simpa using hj
        subst this; rw [hz1]; simpa using hcellS) (fun j hj => by rw [hz1]; exact unfrozen_of_block hh _)
      rw [hz1, Nat.mul_one] at hr
      have e : W.setCells g (off + xs.length) [X] = W.setCell ⟨g, off + xs.length, none⟩ X := rfl
      rw [e] at hr
      have hblk := block_setCell hh (i := off + xs.length) X
      refine ⟨_, _, hr, ?_, ⟨rfl, rfl, rfl, by simp [World.setCell], fun k hk hne => Below.heap_setCell _ _ _ _ (by intro e; apply hne; rw [e]; rfl)⟩, .inl rfl⟩
      refine .inr ⟨g, off, cap, _, by simp, hbg, hblk, by simpa using hs, hm, by simp; omega, fun j hj => ?_⟩
      simp only [List.length_append, List.length_cons, List.length_nil] at hj
      rw [Array.getElem?_setIfInBounds]
      by_cases hjl : j = xs.length
      · subst hjl; rw [if_pos rfl, if_pos (by omega)]; simp
      · rw [if_neg (by omega), hc j (by omega), List.getElem?_append_left (by omega)]
    · have holds : ∀ j u, xs[j]? = some u → W.cell? ((⟨g, off, none⟩ : Addr).add j) = some u := by
        intro j u hu
        have hj : j < xs.length := (List.getElem?_eq_some_iff.1 hu).1
        rw [Go.WideShapes.add_plain, cell_of_block hh, hc j hj]; exact hu
      have hcap : cap = xs.length := by omega
      have hr := run_append_grow_src (P := Tryd.prog) W 32 32 32 35 i0 (.slice none 0 0) Tryd.underlying32 hi hz0 (some ⟨g, off, none⟩) xs.length cap xs
        (by rw [hz1]; exact run_firstCells_some (P := Tryd.prog) W.drew 1 xs.length ⟨g, off, none⟩ xs.length cap xs (by omega) (by simpa using holds)) _ 1 [X] (by rw [hz1]; exact hsrc) (by omega) (by omega)
        (by rw [hz2]; exact growslice_fits (by omega) (by omega))
      refine ⟨_, _, hr, ?_, ⟨rfl, rfl, rfl, by simp, fun k hk _ => heap_alloc_old W.drew _ _ hk⟩, .inr ⟨_, rfl, Nat.le_refl _⟩⟩
      have hge := grownCap_ge W (xs.length + 1) cap 35
      have hcm : grownCap W (xs.length + 1) cap 35 ≤ maxLen := grownCap_le_maxLen W _ _ _ (by simp [maxLen]; omega)
      refine .inr ⟨W.heap.size, 0, _, _, by simp, hb, heap_alloc_new W.drew _, ?_, hcm, by simpa using hge, fun j hj => ?_⟩
      · simp [Builtin.zeroCells, Value.cells]
        omega
      · rw [Nat.zero_add, Array.getElem?_append_left (by simpa using hj)]
        simp
/-- A list in memory of one's own. -/
def OV (w : World) (base : Nat) (v : Value) (l : List Int) : Prop := ∃ a c, v = .slice a l.length c ∧ OwnI w base a c l
theorem OV.kept {w w' : World} {base : Nat} {v : Value} {l : List Int} (h : OV w base v l) (hk : ∀ g, ob v = some g → w'.heap[g]? = w.heap[g]?) : OV w' base v l := by
  obtain ⟨a, c, rfl, h1, h2, h3⟩ := h
  refine ⟨a, c, rfl, h1, h2, ?_⟩
  by_cases hc : c = 0
  · exact .inl ⟨hc, List.eq_nil_of_length_eq_zero (by omega)⟩
  · rcases h3 with h3 | ⟨g, cur, rfl, hg, hh, r⟩
    · exact .inl h3
    · exact .inr ⟨g, cur, rfl, hg, by rw [hk g (ob_some (by omega))]; exact hh, r⟩
theorem OV.block {w : World} {base : Nat} {v : Value} {l : List Int} (h : OV w base v l) {g : Nat} (hg : ob v = some g) : base ≤ g ∧ ∃ cur, w.heap[g]? = some (.cells cur 3 (0, 0)) := by
  obtain ⟨a, c, rfl, h1, h2, h3⟩ := h
  by_cases hc : c = 0
  · subst hc; rw [ob_zero] at hg; cases hg
  · rcases h3 with ⟨h3, -⟩ | ⟨g', cur, rfl, hb, hh, r⟩
    · exact absurd h3 hc
    · rw [ob_some (by omega)] at hg; cases hg; exact ⟨hb, cur, hh⟩
theorem OV.le {w : World} {base base' : Nat} {v : Value} {l : List Int} (h : OV w base v l) (hb : base' ≤ base) : OV w base' v l := by
  obtain ⟨a, c, e, h⟩ := h
  exact ⟨a, c, e, h.low hb⟩
theorem OV.its {w : World} {base : Nat} {v : Value} {l : List Int} (h : OV w base v l) : ∃ a cap, v = .slice a l.length cap ∧ CH.INS w a l ∧ l.length ≤ cap := by
  obtain ⟨a, c, e, h⟩ := h
  exact ⟨a, c, e, h.row.sp, h.le⟩
theorem OV.shape {w : World} {base : Nat} {v : Value} {l : List Int} (h : OV w base v l) : ∃ a c, v = .slice a l.length c := by
  obtain ⟨a, c, h, _⟩ := h
  exact ⟨a, c, h⟩
theorem OV.len_le {w : World} {base : Nat} {v : Value} {l : List Int} (h : OV w base v l) : l.length ≤ 9223372036854775807 := by
  obtain ⟨a, c, _, h⟩ := h
  exact Nat.le_trans h.le h.cap
theorem OV.heads {w : World} {base : Nat} {v : Value} {l : List Int} (h : OV w base v l) : (∃ a, v = .slice a 0 0 ∧ l = []) ∨ ∃ g c, v = .slice (some ⟨g, 0, none⟩) l.length c ∧ 0 < c ∧ c ≤ 9223372036854775807 ∧ l.length ≤ c := by
  obtain ⟨a, c, rfl, h1, h2, h3⟩ := h
  by_cases hc : c = 0
  · have hl : l = [] := List.eq_nil_of_length_eq_zero (by omega)
    subst hc; subst hl
    exact .inl ⟨a, rfl, rfl⟩
  · rcases h3 with ⟨h3, -⟩ | ⟨g', cur, rfl, hb, hh, r⟩
    · exact absurd h3 hc
    · exact .inr ⟨g', c, rfl, by omega, h2, h1⟩
theorem OV.of_owns {w : World} {base : Nat} {v : Value} {l : List Int} (h : w.ownsRow base 3 1 v l.length (cellsJ l)) : OV w base v l := by
  rcases h.2 with ⟨hv, hn⟩ | ⟨g, c, cur, hv, hg, hh, hn, hm, hs, ht⟩
  · have hl : l = [] := List.eq_nil_of_length_eq_zero hn
    subst hl
    exact ⟨none, 0, hv, Nat.le_refl _, by omega, .inl ⟨rfl, rfl⟩⟩
  · refine ⟨_, c, hv, hn, by simpa [maxLen] using hm, .inr ⟨g, cur, rfl, hg, hh, by omega, fun i y hy => ?_⟩⟩
    have hi : i < l.length := (List.getElem?_eq_some_iff.1 hy).1
    have q0 := cellsJ_get hy
    rw [← ht] at q0
    rw [List.getElem?_take_of_lt (by omega)] at q0
    simpa using q0
/-- What a book keeps of one list: the list, its copy, its bytes. -/
structure Ent where
  v : Value
  u : Value
  l : List Int
theorem SRow.block {w : World} {base : Nat} {v : Value} {xs : List Value} (h : SRow w base v xs) {g : Nat} (hg : v.ownBlock = some g) : base ≤ g ∧ ∃ cur, w.heap[g]? = some (.cells cur 35 (0, 0)) := by
  rcases h with ⟨h0, _⟩ | ⟨g', off, cap, cur, hv, hb, hh, _⟩
  · rw [h0] at hg; cases hg
  · rw [hv] at hg; cases hg; exact ⟨hb, cur, hh⟩
/-- The book's own cells. -/
def BookAt (w : World) (B : Nat) (vl vw : Value) (held : Int) : Prop := w.heap[B]? = some (.cells #[vl, vw, .int .i64 held, .bool false] 34 (0, 0))
theorem BookAt.lt {w : World} {B : Nat} {vl vw : Value} {held : Int} (h : BookAt w B vl vw held) : B < w.heap.size := (Array.getElem?_eq_some_iff.1 h).1
theorem BookAt.c0 {w : World} {B : Nat} {vl vw : Value} {held : Int} (h : BookAt w B vl vw held) : w.cell? ⟨B, 0, none⟩ = some vl := by rw [cell_of_block h]; rfl
theorem BookAt.c1 {w : World} {B : Nat} {vl vw : Value} {held : Int} (h : BookAt w B vl vw held) : w.cell? ⟨B, 1, none⟩ = some vw := by rw [cell_of_block h]; rfl
theorem BookAt.c2 {w : World} {B : Nat} {vl vw : Value} {held : Int} (h : BookAt w B vl vw held) : w.cell? ⟨B, 2, none⟩ = some (.int .i64 held) := by rw [cell_of_block h]; rfl
theorem BookAt.c3 {w : World} {B : Nat} {vl vw : Value} {held : Int} (h : BookAt w B vl vw held) : w.cell? ⟨B, 3, none⟩ = some (.bool false) := by rw [cell_of_block h]; rfl
theorem BookAt.free {w : World} {B : Nat} {vl vw : Value} {held : Int} (h : BookAt w B vl vw held) (k : Nat) : w.frozen? ⟨B, k, none⟩ = false := unfrozen_of_block h k
theorem BookAt.set0 {w : World} {B : Nat} {vl vw : Value} {held : Int} (h : BookAt w B vl vw held) (v : Value) : BookAt (w.setCell ⟨B, 0, none⟩ v) B v vw held := block_setCell h v
theorem BookAt.set1 {w : World} {B : Nat} {vl vw : Value} {held : Int} (h : BookAt w B vl vw held) (v : Value) : BookAt (w.setCell ⟨B, 1, none⟩ v) B vl v held := block_setCell h v
theorem BookAt.set2 {w : World} {B : Nat} {vl vw : Value} {held : Int} (h : BookAt w B vl vw held) (n : Int) : BookAt (w.setCell ⟨B, 2, none⟩ (.int .i64 n)) B vl vw n := block_setCell h _
theorem BookAt.set3 {w : World} {B : Nat} {vl vw : Value} {held : Int} (h : BookAt w B vl vw held) : BookAt (w.setCell ⟨B, 3, none⟩ (.bool false)) B vl vw held := block_setCell h _
theorem BookAt.kept {w w' : World} {B : Nat} {vl vw : Value} {held : Int} (h : BookAt w B vl vw held) (hk : w'.heap[B]? = w.heap[B]?) : BookAt w' B vl vw held := hk.trans h
/-- WHAT A BOOK HOLDS. -/
structure BookInv (w : World) (base B : Nat) (vl vw : Value) (es : List Ent) (held : Int) : Prop where
  at_ : BookAt w B vl vw held
  lists : SRow w base vl (es.map Ent.v)
  was : SRow w base vw (es.map Ent.u)
  ents : ∀ e ∈ es, OV w base e.v e.l ∧ OV w base e.u e.l
  two : ∀ g, vl.ownBlock = some g → vw.ownBlock ≠ some g
  pair : es.Pairwise fun e f => ∀ g, ob e.v = some g → ob f.v ≠ some g
/-- The blocks that a book writes. -/
def bookS (B : Nat) (vl vw : Value) (k : Nat) : Prop := k = B ∨ vl.ownBlock = some k ∨ vw.ownBlock = some k
/-- A book on its way, and what of the world it began in has stayed. -/
structure Went (w : World) (B : Nat) (vl vw : Value) (wr : World) (vlr vwr : Value) : Prop where
  only : Only w wr (bookS B vl vw)
  row : ∀ k, k < w.heap.size → bookS B vlr vwr k → bookS B vl vw k
theorem Went.refl (w : World) (B : Nat) (vl vw : Value) : Went w B vl vw w vl vw := ⟨Only.refl _ _, fun _ _ h => h⟩
theorem Went.trans {w w1 w2 : World} {B : Nat} {vl vw vl1 vw1 vl2 vw2 : Value} (h : Went w B vl vw w1 vl1 vw1) (k : Went w1 B vl1 vw1 w2 vl2 vw2) : Went w B vl vw w2 vl2 vw2 :=
  ⟨h.only.trans k.only h.row, fun i hi h2 => h.row i hi (k.row i (Nat.lt_of_lt_of_le hi h.only.size) h2)⟩
/-- A byte list's block is none of the book's. -/
theorem BookInv.notBook {w : World} {base B : Nat} {vl vw : Value} {es : List Ent} {held : Int} (h : BookInv w base B vl vw es held) {v : Value} {l : List Int} (hv : OV w base v l) {g : Nat} (hg : ob v = some g) : ¬ bookS B vl vw g := by
  obtain ⟨_, cur, hc⟩ := hv.block hg
  rintro (rfl | h1 | h1)
  · exact apart_types h.at_ hc (by decide) rfl
  · obtain ⟨_, cur', hc'⟩ := h.lists.block h1
    exact apart_types hc hc' (by decide) rfl
  · obtain ⟨_, cur', hc'⟩ := h.was.block h1
    exact apart_types hc hc' (by decide) rfl
/-- What a byte list owns stays while the book alone is written. -/
theorem BookInv.keeps {w wr : World} {base B : Nat} {vl vw : Value} {es : List Ent} {held : Int} (h : BookInv w base B vl vw es held) (ho : Only w wr (bookS B vl vw)) {v : Value} {l : List Int} (hv : OV w base v l) : OV wr base v l :=
  hv.kept fun g hg => by
    obtain ⟨_, cur, hc⟩ := hv.block hg
    exact ho.block g (Array.getElem?_eq_some_iff.1 hc).1 (h.notBook hv hg)
/-- Behind 'lists = append(lists, v)'. -/
theorem book_push_lists {w w1 : World} {base B : Nat} {vl vw vl1 : Value} {es : List Ent} {held : Int} {v : Value} (h : BookInv w base B vl vw es held) (hL1 : SRow w1 base vl1 (es.map Ent.v ++ [v])) (hg : (w.alloc (.cells #[v] 35)).grownBy w1 vl.ownBlock)
    (hb : vl1.ownBlock = vl.ownBlock ∨ ∃ g, vl1.ownBlock = some g ∧ (w.alloc (.cells #[v] 35)).heap.size ≤ g) :
    BookAt w1 B vl vw held ∧ SRow (w1.setCell ⟨B, 0, none⟩ vl1) base vl1 (es.map Ent.v ++ [v]) ∧ SRow (w1.setCell ⟨B, 0, none⟩ vl1) base vw (es.map Ent.u) ∧ Went w B vl vw (w1.setCell ⟨B, 0, none⟩ vl1) vl1 vw ∧ (∀ g, vl1.ownBlock = some g → vw.ownBlock ≠ some g) := by
  have hBlt := h.at_.lt
  have hone : Only w w1 (bookS B vl vw) := (Only.alloc w _ _).trans (Only.ofGrown (S := bookS B vl vw) hg (fun i hi => .inr (.inl hi))) (fun _ _ hs => hs)
  have hBl : vl.ownBlock ≠ some B := by
    intro e; obtain ⟨_, cur, hh⟩ := h.lists.block e
    exact apart_types h.at_ hh (by decide) rfl
  have hBw : vw.ownBlock ≠ some B := by
    intro e; obtain ⟨_, cur, hh⟩ := h.was.block e
    exact apart_types h.at_ hh (by decide) rfl
  have hA1 : BookAt w1 B vl vw held := h.at_.kept (by
    rw [hg.block B (by simp; omega) (fun e => hBl e.symm)]
    exact heap_alloc_old w _ _ hBlt)
  have hBl1 : vl1.ownBlock ≠ some B := by
    intro e; obtain ⟨_, cur, hh⟩ := hL1.block e
    exact apart_types hA1 hh (by decide) rfl
  have hset : ∀ k, k ≠ B → (w1.setCell ⟨B, 0, none⟩ vl1).heap[k]? = w1.heap[k]? := fun k hk => Below.heap_setCell _ _ _ _ hk
  have htwo : ∀ g, vl1.ownBlock = some g → vw.ownBlock ≠ some g := by
    intro g hg1 hg2
    rcases hb with hb | ⟨g', hb, hle⟩
    · exact h.two g (hb ▸ hg1) hg2
    · rw [hb] at hg1; cases hg1
      have := (h.was.lt g hg2).2
      simp at hle; omega
  refine ⟨hA1, hL1.kept fun g hg => hset g (by rintro rfl; exact hBl1 hg), h.was.kept fun g hgw => ?_, ⟨hone.trans (Only.set (S := bookS B vl vw) B 0 vl1 (.inl rfl)) (fun _ _ hs => hs), ?_⟩, htwo⟩
  · rw [hset g (by rintro rfl; exact hBw hgw), hg.block g (by have := (h.was.lt g hgw).2; simp; omega) (fun e => h.two g e.symm hgw)]
    exact heap_alloc_old w _ _ (h.was.lt g hgw).2
  · rintro k hk (rfl | h1 | h1)
    · exact .inl rfl
    · rcases hb with hb | ⟨g', hb, hle⟩
      · exact .inr (.inl (hb ▸ h1))
      · rw [hb] at h1; cases h1; simp at hle; omega
    · exact .inr (.inr h1)
/-- Behind 'was = append(was, append(nil, v...))': u the copy, made in w3; the row w5; the store. -/
theorem book_push_was {w2 w3 w5 : World} {base B : Nat} {vl1 vw vw1 : Value} {es : List Ent} {held : Int} {v u : Value} {l : List Int} (hA : BookAt w2 B vl1 vw held) (hL : SRow w2 base vl1 (es.map Ent.v ++ [v])) (hW : SRow w2 base vw (es.map Ent.u))
    (hE : ∀ e ∈ es, OV w2 base e.v e.l ∧ OV w2 base e.u e.l) (hv : OV w2 base v l) (htwo : ∀ g, vl1.ownBlock = some g → vw.ownBlock ≠ some g) (hP : es.Pairwise fun e f => ∀ g, ob e.v = some g → ob f.v ≠ some g)
    (hnew : ∀ e ∈ es, ∀ g, ob e.v = some g → ob v ≠ some g) (h3 : Only w2 w3 fun _ => False) (hu : OV w3 w2.heap.size u l) (hbase : base ≤ w2.heap.size) (hW5 : SRow w5 base vw1 (es.map Ent.u ++ [u])) (h5 : Only w3 w5 fun k => vw.ownBlock = some k)
    (hb : vw1.ownBlock = vw.ownBlock ∨ ∃ g, vw1.ownBlock = some g ∧ w3.heap.size ≤ g) :
    BookAt w5 B vl1 vw held ∧ BookInv (w5.setCell ⟨B, 1, none⟩ vw1) base B vl1 vw1 (es ++ [⟨v, u, l⟩]) held ∧ Went w2 B vl1 vw (w5.setCell ⟨B, 1, none⟩ vw1) vl1 vw1 := by
  have hBlt := hA.lt
  have hBw : vw.ownBlock ≠ some B := by
    intro e; obtain ⟨_, cur, hh⟩ := hW.block e
    exact apart_types hA hh (by decide) rfl
  have hBl : vl1.ownBlock ≠ some B := by
    intro e; obtain ⟨_, cur, hh⟩ := hL.block e
    exact apart_types hA hh (by decide) rfl
  -- what lies in w2 and is no row of copies lies in w5
  have hkeep : ∀ k, k < w2.heap.size → vw.ownBlock ≠ some k → w5.heap[k]? = w2.heap[k]? := fun k hk hn =>
    (h5.block k (Nat.lt_of_lt_of_le hk h3.size) hn).trans (h3.block k hk (fun h => h))
  have hA5 : BookAt w5 B vl1 vw held := hA.kept (hkeep B hBlt hBw)
  have hBw1 : vw1.ownBlock ≠ some B := by
    intro e; obtain ⟨_, cur, hh⟩ := hW5.block e
    exact apart_types hA5 hh (by decide) rfl
  have hset : ∀ k, k ≠ B → (w5.setCell ⟨B, 1, none⟩ vw1).heap[k]? = w5.heap[k]? := fun k hk => Below.heap_setCell _ _ _ _ hk
  have hbytes : ∀ {x : Value} {m : List Int}, OV w2 base x m → OV (w5.setCell ⟨B, 1, none⟩ vw1) base x m := fun {x m} hx => hx.kept fun g hg => by
    obtain ⟨_, cur, hc⟩ := hx.block hg
    have hgB : g ≠ B := fun e => apart_types hA hc (by decide) e.symm
    rw [hset g hgB]
    exact hkeep g (Array.getElem?_eq_some_iff.1 hc).1 (fun e => by
      obtain ⟨_, cur', hc'⟩ := hW.block e
      exact apart_types hc hc' (by decide) rfl)
  have hu7 : OV (w5.setCell ⟨B, 1, none⟩ vw1) base u l := by
    have hu' : OV w3 base u l := hu.le hbase
    refine hu'.kept fun g hg => ?_
    obtain ⟨_, cur, hc⟩ := hu'.block hg
    have hge := (hu.block hg).1
    have hgB : g ≠ B := by omega
    rw [hset g hgB]
    refine h5.block g (Array.getElem?_eq_some_iff.1 hc).1 (fun e => ?_)
    have := (hW.lt g e).2
    omega
  have htwo' : ∀ g, vl1.ownBlock = some g → vw1.ownBlock ≠ some g := by
    intro g hg1 hg2
    rcases hb with hb | ⟨g', hb, hle⟩
    · exact htwo g hg1 (hb ▸ hg2)
    · rw [hb] at hg2; cases hg2
      have := (hL.lt g hg1).2
      have := h3.size
      omega
  refine ⟨hA5, ⟨hA5.set1 vw1, ?_, ?_, ?_, htwo', ?_⟩, ⟨?_, ?_⟩⟩
  · rw [List.map_append]
    exact hL.kept fun g hg => by
      rw [hset g (by rintro rfl; exact hBl hg)]
      exact hkeep g (hL.lt g hg).2 (htwo g hg)
  · rw [List.map_append]
    exact hW5.kept fun g hg => hset g (by rintro rfl; exact hBw1 hg)
  · intro e he
    rcases List.mem_append.1 he with he | he
    · exact ⟨hbytes (hE e he).1, hbytes (hE e he).2⟩
    · simp at he; subst he; exact ⟨hbytes hv, hu7⟩
  · rw [List.pairwise_append]
    refine ⟨hP, by simp, fun e he f hf => ?_⟩
    simp at hf; subst hf; exact hnew e he
  · refine (((h3.wider (T := bookS B vl1 vw) (fun _ _ h => h.elim)).trans h5 (S1 := fun k => vw.ownBlock = some k) ?_).trans (Only.set (S := bookS B vl1 vw) B 1 vw1 (.inl rfl)) (fun _ _ hs => hs))
    intro i _ h1; exact .inr (.inr h1)
  · rintro k hk (rfl | h1 | h1)
    · exact .inl rfl
    · exact .inr (.inl h1)
    · rcases hb with hb | ⟨g', hb, hle⟩
      · exact .inr (.inr (hb ▸ h1))
      · rw [hb] at h1; cases h1
        have := h3.size
        omega
/-- The book's own cells alone have turned. -/
theorem BookInv.move {w w' : World} {base B : Nat} {vl vw : Value} {es : List Ent} {held held' : Int} (h : BookInv w base B vl vw es held) (ho : Only w w' fun k => k = B) (hA : BookAt w' B vl vw held') : BookInv w' base B vl vw es held' := by
  have hbl : vl.ownBlock ≠ some B := by
    intro e; obtain ⟨_, cur, hh⟩ := h.lists.block e
    exact apart_types h.at_ hh (by decide) rfl
  have hbw : vw.ownBlock ≠ some B := by
    intro e; obtain ⟨_, cur, hh⟩ := h.was.block e
    exact apart_types h.at_ hh (by decide) rfl
  have hbytes : ∀ {x : Value} {m : List Int}, OV w base x m → OV w' base x m := fun {x m} hx => hx.kept fun g hg => by
    obtain ⟨_, cur, hc⟩ := hx.block hg
    exact ho.block g (Array.getElem?_eq_some_iff.1 hc).1 (fun e => apart_types h.at_ hc (by decide) e.symm)
  exact ⟨hA, h.lists.kept fun g hg => ho.block g (h.lists.lt g hg).2 (by rintro rfl; exact hbl hg), h.was.kept fun g hg => ho.block g (h.was.lt g hg).2 (by rintro rfl; exact hbw hg),
    fun e he => ⟨hbytes (h.ents e he).1, hbytes (h.ents e he).2⟩, h.two, h.pair⟩
/-- The front one is let go. -/
theorem BookInv.cut {w : World} {base B g o n c g' o' n' c' : Nat} {e : Ent} {es : List Ent} {held : Int} (h : BookInv w base B (.slice (some ⟨g, o, none⟩) n c) (.slice (some ⟨g', o', none⟩) n' c') (e :: es) held) (hn : n = es.length + 1) (hn' : n' = es.length + 1) {w' : World}
    (ho : Only w w' fun k => k = B) (hA : BookAt w' B (.slice (some ⟨g, o + 1, none⟩) es.length (c - 1)) (.slice (some ⟨g', o' + 1, none⟩) es.length (c' - 1)) held) :
    BookInv w' base B (.slice (some ⟨g, o + 1, none⟩) es.length (c - 1)) (.slice (some ⟨g', o' + 1, none⟩) es.length (c' - 1)) es held := by
  have hbl : g ≠ B := by
    rintro rfl; obtain ⟨_, cur, hh⟩ := h.lists.block rfl
    exact apart_types h.at_ hh (by decide) rfl
  have hbw : g' ≠ B := by
    rintro rfl; obtain ⟨_, cur, hh⟩ := h.was.block rfl
    exact apart_types h.at_ hh (by decide) rfl
  have hbytes : ∀ {x : Value} {m : List Int}, OV w base x m → OV w' base x m := fun {x m} hx => hx.kept fun g hg => by
    obtain ⟨_, cur, hc⟩ := hx.block hg
    exact ho.block g (Array.getElem?_eq_some_iff.1 hc).1 (fun e => apart_types h.at_ hc (by decide) e.symm)
  have e1 : (es.map Ent.v).length = es.length := List.length_map ..
  have e2 : (es.map Ent.u).length = es.length := List.length_map ..
  have hL := SRow.tail h.lists (by rw [e1]; exact hn)
  have hW := SRow.tail h.was (by rw [e2]; exact hn')
  rw [e1] at hL
  rw [e2] at hW
  refine ⟨hA, hL.kept fun k hk => ho.block k (hL.lt k hk).2 (by rintro rfl; cases hk; exact hbl rfl), hW.kept fun k hk => ho.block k (hW.lt k hk).2 (by rintro rfl; cases hk; exact hbw rfl),
    fun e' he => ⟨hbytes (h.ents e' (List.mem_cons_of_mem _ he)).1, hbytes (h.ents e' (List.mem_cons_of_mem _ he)).2⟩, h.two, (List.pairwise_cons.1 h.pair).2⟩
theorem Went.move {w w1 w2 : World} {B : Nat} {vl vw vl1 vw1 vl2 vw2 : Value} (h : Went w B vl vw w1 vl1 vw1) (ho : Only w1 w2 fun k => k = B) (hl : vl2.ownBlock = vl1.ownBlock) (hw : vw2.ownBlock = vw1.ownBlock) : Went w B vl vw w2 vl2 vw2 :=
  h.trans ⟨ho.wider (fun _ _ hk => .inl hk), fun k _ hk => by
    rcases hk with hk | hk | hk
    · exact .inl hk
    · exact .inr (.inl (hl ▸ hk))
    · exact .inr (.inr (hw ▸ hk))⟩
/-- What the copy leaves. -/
def R1 (w2 : World) (l : List Int) (u : Value) (w3 : World) : Prop := (∃ au cu, u = .slice au l.length cu) ∧ OV w3 w2.heap.size u l ∧ Only w2 w3 fun _ => False
theorem copy_step (w2 : World) (base : Nat) (a : Option Addr) (c : Nat) (l : List Int) (hv : OV w2 base (.slice a l.length c) l) (hl : l.length ≤ 17592186044416) : ∀ wx, Like w2 wx →
    ∃ u w3, (Builtin.append_ #[35, 35] 35 #[.slice none 0 0, .slice a l.length c]).run Tryd.prog wx = .ok u w3 ∧ R1 w2 l u w3 := by
  intro wx hx
  obtain ⟨i0, hi, hz0, hz1, hz2⟩ := info_parts infoJ
  have hv' : OV wx base (.slice a l.length c) l := hv.kept fun g _ => by rw [hx.heap]
  obtain ⟨a', c', he, hv1⟩ := hv'
  simp only [Value.slice.injEq, true_and] at he
  obtain ⟨rfl, rfl⟩ := he
  have hsp := hv1.row.sp
  cases a with
  | none =>
    have hn : l = [] := by
      rcases hv1.row with ⟨-, h⟩ | ⟨g, cur, h, _⟩
      · exact h
      · cases h
    have hc0 : c = 0 ∨ 0 < c := by omega
    subst hn
    refine ⟨.slice none 0 0, wx, ?_, ⟨none, 0, rfl⟩, ⟨none, 0, rfl, Nat.le_refl _, by omega, .inl ⟨rfl, rfl⟩⟩, hx.only _⟩
    simp [Builtin.append_, run_underlying (P := Tryd.prog) Tryd.underlying35, sizeOf, typeInfo, hi, Builtin.lenOf, Builtin.firstCells]
  | some x =>
    obtain ⟨u, w3, hr, ho, hb, _⟩ := run_append_own (P := Tryd.prog) wx wx.heap.size 35 35 3 i0 _ 1 8 Tryd.underlying35 hi hz0 hz1 hz2 (by simp [Value.cells]) (by decide) (.slice none 0 0) 0 [] (World.ownsRow_nil wx _ 3 1) x l.length c (cellsJ l) (cellsJ_length l) hsp.cells (cellsJ_one l) (by unfold maxLen; omega) (by omega) (Nat.le_refl _)
    rw [List.nil_append, Nat.zero_add] at ho
    have ho' : OV w3 wx.heap.size u l := OV.of_owns ho
    rw [hx.heap] at ho'
    exact ⟨u, w3, hr, ho'.shape, ho', (hx.only _).trans (Only.ofGrown (S := fun _ => False) hb (fun i h => by cases h)) (fun _ _ h => h)⟩
/-- What the row of copies leaves. -/
def R2 (w3 : World) (base : Nat) (vw : Value) (us : List Value) (vw1 : Value) (w5 : World) : Prop := (∃ g o c, vw1 = .slice (some ⟨g, o, none⟩) us.length c) ∧ SRow w5 base vw1 us ∧ (Only w3 w5 fun k => vw.ownBlock = some k) ∧ (vw1.ownBlock = vw.ownBlock ∨ ∃ g, vw1.ownBlock = some g ∧ w3.heap.size ≤ g)
theorem was_step (w3 : World) (base : Nat) (vw : Value) (us : List Value) (u : Value) (h : Nat) (hu : u.oneCell' = true) (hW : SRow w3 base vw us) (hh : h = w3.heap.size) (hbase : base ≤ w3.heap.size) (hs : us.length ≤ 1000000) : ∀ W, Like (w3.alloc (.cells #[u] 35)) W →
    ∃ vw1 w5, (Builtin.append_ #[32, 32] 32 #[vw, .slice (some ⟨h, 0, none⟩) 1 1]).run Tryd.prog W = .ok vw1 w5 ∧ R2 w3 base vw (us ++ [u]) vw1 w5 := by
  intro W hWl
  have e : W.heap[h]? = (w3.alloc (.cells #[u] 35)).heap[h]? := by rw [hWl.heap]
  have hsz : W.heap.size = w3.heap.size + 1 := by rw [hWl.heap]; simp
  have hcell : W.cell? ⟨h, 0, none⟩ = some u := by
    have := World.cell?_of_block (w := w3.alloc (.cells #[u] 35)) (w' := W) (a := ⟨h, 0, none⟩) e
    rw [this, World.cell?_alloc_at _ _ _ _ hh]; rfl
  obtain ⟨vw1, w5, hr, h1, h2, h3⟩ := run_push W base vw us u h 1 hu (hW.kept fun g hg => by rw [hWl.heap]; exact heap_alloc_old w3 _ _ (hW.lt g hg).2) hcell (by omega) hs
  obtain ⟨g, o, c, hv, _⟩ := h1.form (by simp)
  refine ⟨vw1, w5, hr, ⟨g, o, c, hv⟩, h1, ?_, ?_⟩
  · exact ((Only.alloc w3 _ _).trans (hWl.only _) (fun _ _ h => h)).trans (Only.ofGrown (S := fun k => vw.ownBlock = some k) h2 (fun _ h => h)) (fun _ _ h => h)
  · rcases h3 with h3 | ⟨g', h3, h4⟩
    · exact .inl h3
    · exact .inr ⟨g', h3, by omega⟩
theorem same_step_like {wr : World} {base : Nat} {a0 a1 : Option Addr} {k0 k1 : Nat} {l0 : List Int} (h0 : OV wr base (.slice a0 l0.length k0) l0) (h1 : OV wr base (.slice a1 l0.length k1) l0) :
    Hid (∀ wx, Like wr wx → Calls Tryd.prog 16 #[.slice a0 l0.length k0, .slice a1 l0.length k1] wx fun e w' => e = .returned (.bool true) ∧ Only wr w' fun _ => False) := by
  intro wx hx
  have g0 : OV wx base (.slice a0 l0.length k0) l0 := h0.kept fun g _ => by rw [hx.heap]
  have g1 : OV wx base (.slice a1 l0.length k1) l0 := h1.kept fun g _ => by rw [hx.heap]
  obtain ⟨x0, y0, e0, i0, _⟩ := g0.its
  obtain ⟨x1, y1, e1, i1, _⟩ := g1.its
  rw [e0, e1]
  exact (sameN_any x0 x1 y0 y1 l0 wx h0.len_le i0 i1).mono fun e w' ⟨e1, e2⟩ => ⟨e1, (hx.only _).trans (Only.ofBelow (S := fun _ => False) e2) (fun _ _ h => h)⟩
/-- What Keep leaves: the last ones of what was kept and of the new one. -/
def KeepPost (w : World) (base B : Nat) (vl vw : Value) (es : List Ent) (v : Value) (l : List Int) (w' : World) : Prop :=
  ∃ vl' vw' es' held' u, 0 < es'.length ∧ es' <:+ es ++ [⟨v, u, l⟩] ∧ BookInv w' base B vl' vw' es' held' ∧ Went w B vl vw w' vl' vw'
set_option maxRecDepth 100000 in
set_option maxHeartbeats 16000000 in
theorem keep_any (w : World) (base B : Nat) (vl vw : Value) (es : List Ent) (held : Int) (a : Option Addr) (c : Nat) (l : List Int) (hI : BookInv w base B vl vw es held) (hv : OV w base (.slice a l.length c) l) (hbase : base ≤ w.heap.size) (hes : es.length ≤ 3999) (hl : l.length ≤ 17592186044416)
    (hnew : ∀ e ∈ es, ∀ g, ob e.v = some g → ob (Value.slice a l.length c) ≠ some g) :
    Calls Tryd.prog 9 #[.pointer (some ⟨B, 0, none⟩), .slice a l.length c] w fun e w' => e = .returned (.tuple #[]) ∧ KeepPost w base B vl vw es (.slice a l.length c) l w' := by
  have hI' := hI
  obtain ⟨hA, hL, hW, hE, h2, hP⟩ := hI'
  have hc0 := hA.c0
  have hBlt := hA.lt
  -- lists = append(lists, l)
  obtain ⟨vl1, w1, hr1, hL1, hg1, hb1⟩ := run_push (w.alloc (.cells #[.slice a l.length c] 35)) base vl (es.map Ent.v) (.slice a l.length c) w.heap.size 1 rfl (hL.kept fun g hg => heap_alloc_old w _ _ (hL.lt g hg).2)
    (by rw [World.cell?_alloc_at _ _ _ _ rfl]; rfl) (by simp; omega) (by simp; omega)
  have hA1 : BookAt w1 B vl vw held := hA.kept (by
    rw [hg1.block B (by simp; omega) (by
      intro e; obtain ⟨_, cur, hh⟩ := hL.block e.symm
      exact apart_types hA hh (by decide) rfl)]
    exact heap_alloc_old w _ _ hBlt)
  have hf1 := hA1.free 0
  have hc10 := hA1.c0
  obtain ⟨gl, ol, cl, rfl, hgl1, hgl2, hcl, _, _⟩ := hL1.form (by simp)
  obtain ⟨n1, hn1⟩ : ∃ n, n = (es.map Ent.v ++ [Value.slice a l.length c]).length := ⟨_, rfl⟩
  rw [← hn1] at hr1 hL1 hb1 hcl
  have HN1 : Hid (n1 = es.length + 1) := hn1.trans (by simp)
  clear hn1
  have hA2 := hA1.set0 (.slice (some ⟨gl, ol, none⟩) n1 cl)
  obtain ⟨w2, hw2⟩ : ∃ w2, w2 = w1.setCell ⟨B, 0, none⟩ (.slice (some ⟨gl, ol, none⟩) n1 cl) := ⟨_, rfl⟩
  rw [← hw2] at hA2
  go_enter Tryd.func9, Tryd.ntmps9
  go_wp2_with (at_builtin; refine wpList_append_run rfl (.tmp 8) (.tmp 10) 32 32 rfl _ _ rfl rfl _ w1 hr1 ?_; clear hr1)
  rw [← hw2]
  have HW2 : Hid (w2 = w1.setCell ⟨B, 0, none⟩ (.slice (some ⟨gl, ol, none⟩) n1 cl)) := hw2
  obtain ⟨q1, q2, q3, q4, q5⟩ := book_push_lists hI hL1 hg1 hb1
  rw [← hw2] at q2 q3 q4
  have HV : OV w2 base (.slice a l.length c) l := hI.keeps q4.only hv
  have HX := copy_step w2 base a c l HV hl
  have d1 := hA2.c1
  have d2 := hA2.free 1
  clear hw2
  go_cut [] (fun wr => ∃ vw1 u, BookInv wr base B (.slice (some ⟨gl, ol, none⟩) n1 cl) vw1 (es ++ [⟨.slice a l.length c, u, l⟩]) held ∧ Went w B vl vw wr (.slice (some ⟨gl, ol, none⟩) n1 cl) vw1)
  case first =>
    have hus : (es.map Ent.u).length ≤ 1000000 := by rw [List.length_map]; omega
    have hb2 : base ≤ w2.heap.size := Nat.le_trans hbase q4.only.size
    have hE2 : ∀ e ∈ es, OV w2 base e.v e.l ∧ OV w2 base e.u e.l := fun e he => ⟨hI.keeps q4.only (hE e he).1, hI.keeps q4.only (hE e he).2⟩
    have HP : Hid (∀ (u vw1 : Value) (w3 w5 : World), R1 w2 l u w3 → R2 w3 base vw (es.map Ent.u ++ [u]) vw1 w5 → BookAt w5 B (.slice (some ⟨gl, ol, none⟩) n1 cl) vw held ∧ BookInv (w5.setCell ⟨B, 1, none⟩ vw1) base B (.slice (some ⟨gl, ol, none⟩) n1 cl) vw1 (es ++ [⟨.slice a l.length c, u, l⟩]) held ∧ Went w2 B (.slice (some ⟨gl, ol, none⟩) n1 cl) vw (w5.setCell ⟨B, 1, none⟩ vw1) (.slice (some ⟨gl, ol, none⟩) n1 cl) vw1) :=
      fun u vw1 w3 w5 r1 r2 => book_push_was hA2 q2 q3 hE2 HV q5 hP hnew r1.2.2 r1.2.1 hb2 r2.2.1 r2.2.2.1 r2.2.2.2
    have HY : Hid (∀ (u : Value) (w3 : World), R1 w2 l u w3 → ∀ W, Like (w3.alloc (.cells #[u] 35)) W → ∃ vw1 w5, (Builtin.append_ #[32, 32] 32 #[vw, .slice (some ⟨w3.heap.size, 0, none⟩) 1 1]).run Tryd.prog W = .ok vw1 w5 ∧ R2 w3 base vw (es.map Ent.u ++ [u]) vw1 w5) := by
      intro u w3 r1
      obtain ⟨⟨au, cu, rfl⟩, _, ho⟩ := r1
      exact was_step w3 base vw _ _ w3.heap.size rfl (q3.kept fun g hg => ho.block g (q3.lt g hg).2 (fun h => h)) rfl (Nat.le_trans hb2 ho.size) hus
    have HA : Hid (∀ (w3 : World), (Only w2 w3 fun _ => False) → BookAt w3 B (.slice (some ⟨gl, ol, none⟩) n1 cl) vw held) := fun w3 ho => hA2.kept (ho.block B hA2.lt (fun h => h))
    clear hE2 hus hE q2 q3 hP hnew hA1 hL hW hI hA hv HV hb1 hg1 hL1
    go_region_law (first
      | (refine step_append_ex rfl (.tmp 18) (.tmp 21) 32 32 rfl vw (.slice (some ⟨w3.heap.size, 0, none⟩) 1 1) rfl rfl (R2 w3 base vw (es.map Ent.u ++ [.slice au l.length cu])) (HY.out (.slice au l.length cu) w3 r1 _ (by first | exact Like.refl _ | exact (Like.refl _).drew)) ?_; rintro vw1 w5 r2; have r2' := r2; obtain ⟨⟨g5, o5, c5, rfl⟩, hs5, ho5, hb5⟩ := r2'; have r3 := HP.out _ _ _ _ r1 r2; have e2 := r3.1.c1; have e3 := r3.1.free 1)
      | (refine step_append_ex rfl (.const (.slice none 0 0)) (.tmp 19) 35 35 rfl (.slice none 0 0) (.slice a l.length c) rfl rfl (R1 w2 l) (HX _ (by first | exact Like.refl _ | exact (Like.refl _).drew)) ?_; rintro u w3 r1; have r1' := r1; obtain ⟨⟨au, cu, rfl⟩, hu3, ho3⟩ := r1'; have e1 := (HA.out w3 ho3).c1; have e5 := (HA.out w3 ho3).lt))
    all_goals
      go_wp2_with fail
      go_meet
    all_goals
      have r4 := r3.2
      simp only [List.length_append, List.length_map, List.length_cons, List.length_nil, Nat.zero_add] at r4
      exact ⟨_, _, r4.1, q4.trans r4.2⟩
  case rest =>
    obtain ⟨vw1, u, hI1, hw1⟩ := hcut
    clear hI hA hL hW hE h2 hP hc0 hBlt hg1 hA1 hf1 hc10 hgl1 hgl2 hcl hb1 hL1 hA2 HW2 q1 q2 q3 q5 HV HX d1 d2 hnew
    have b2 := hI1.at_.c2
    have f2 := hI1.at_.free 2
    go_wp2
    have hI2 := hI1.move (Only.set B 2 (.int .i64 (wrap64 (wrap64 (held + c) + 1))) rfl) (hI1.at_.set2 (wrap64 (wrap64 (held + c) + 1)))
    have hw2 := hw1.move (Only.set B 2 (.int .i64 (wrap64 (wrap64 (held + c) + 1))) rfl) rfl rfl
    obtain ⟨X, hX⟩ : ∃ X, X = es ++ [⟨.slice a l.length c, u, l⟩] := ⟨_, rfl⟩
    rw [← hX] at hI2
    have hX0 : 0 < X.length := by rw [hX]; simp
    have HXS : Hid (X = es ++ [⟨.slice a l.length c, u, l⟩]) := hX
    have HXL : Hid (X.length ≤ 4000) := (show X.length ≤ 4000 by rw [hX]; simp; omega)
    clear hI1 hw1 b2 f2 hX q4 hbase
    go_loopg [] X.length (fun k wr => ∃ (vlr vwr : Value) (es' : List Ent) (held' : Int), es'.length = k ∧ 0 < k ∧ es' <:+ X ∧ BookInv wr base B vlr vwr es' held' ∧ Went w B vl vw wr vlr vwr)
    case atStart => exact ⟨_, _, X, _, rfl, hX0, List.suffix_refl X, hI2, hw2⟩
    case round =>
      obtain ⟨vlr, vwr, es', held', hk, hk0, hsuf, hIr, hwr⟩ := hrel
      obtain ⟨gl', ol', cl', rfl, hgl1, hgl2, hcl', hclm, hlc⟩ := hIr.lists.form (by rw [List.length_map]; omega)
      obtain ⟨gw', ow', cw', rfl, hgw1, hgw2, hcw', hcwm, hwc⟩ := hIr.was.form (by rw [List.length_map]; omega)
      simp only [List.length_map, hk] at hIr hwr hcl' hcw'
      have b0 := hIr.at_.c0
      have b1 := hIr.at_.c1
      have b2 := hIr.at_.c2
      have b3 := hIr.at_.c3
      have hgkX : gk ≤ 4000 := Nat.le_trans (by rw [← hk]; exact hsuf.length_le) HXL.out
      have hgl0 : gk ≤ 9223372036854775807 := by omega
      rcases (show (¬ 1 < gk) ∨ (1 < gk ∧ ¬ 1000000 < held' ∧ ¬ 4000 < gk) ∨ (1 < gk ∧ 1000000 < held') by omega) with hm | ⟨hm, hh, h4⟩ | hc
      · go_wp2
        go_end0
        exact ⟨rfl, _, _, es', held', u, by omega, by rw [← HXS.out]; exact hsuf, hIr, hwr⟩
      · go_wp2
        go_end0
        exact ⟨rfl, _, _, es', held', u, by omega, by rw [← HXS.out]; exact hsuf, hIr, hwr⟩
      all_goals
        cases es' with
        | nil => simp at hk; omega
        | cons e0 rest =>
          have hk' : rest.length + 1 = gk := by simpa using hk
          have c0 := hlc 0 (by simp)
          have c1 := hwc 0 (by simp)
          simp only [List.map_cons, List.getElem_cons_zero, Nat.add_zero] at c0 c1
          obtain ⟨ho0, ho1⟩ := hIr.ents e0 (List.mem_cons_self ..)
          obtain ⟨v0, u0, l0⟩ := e0
          obtain ⟨a0, k0, hv0⟩ := ho0.shape
          obtain ⟨a1, k1, hu0⟩ := ho1.shape
          simp only at hv0 hu0 ho0 ho1 c0 c1
          subst hv0
          subst hu0
          clear hlc hwc
          have HS := same_step_like (wr := wr) ho0 ho1
          have HF : Hid (∀ w5, (Only wr w5 fun _ => False) → BookInv (w5.setCell ⟨B, 3, none⟩ (.bool false)) base B (.slice (some ⟨gl', ol', none⟩) gk cl') (.slice (some ⟨gw', ow', none⟩) gk cw') (⟨.slice a0 l0.length k0, .slice a1 l0.length k1, l0⟩ :: rest) held' ∧ Went w B vl vw (w5.setCell ⟨B, 3, none⟩ (.bool false)) (.slice (some ⟨gl', ol', none⟩) gk cl') (.slice (some ⟨gw', ow', none⟩) gk cw')) := fun w5 ho => by
            have ho' : Only wr w5 fun k => k = B := ho.wider (fun _ _ h => h.elim)
            have hA := hIr.at_.kept (ho.block B hIr.at_.lt (fun h => h))
            have h1 := hIr.move ho' hA
            have h2 := Only.set (S := fun k => k = B) (w := w5) B 3 (.bool false) rfl
            exact ⟨h1.move h2 hA.set3, (hwr.move ho' rfl rfl).move h2 rfl rfl⟩
          have HA5 : Hid (∀ w5, (Only wr w5 fun _ => False) → BookAt w5 B (.slice (some ⟨gl', ol', none⟩) gk cl') (.slice (some ⟨gw', ow', none⟩) gk cw') held') := fun w5 ho => hIr.at_.kept (ho.block B hIr.at_.lt (fun h => h))
          go_wp2
          go_cut [] (fun wx => BookInv wx base B (.slice (some ⟨gl', ol', none⟩) gk cl') (.slice (some ⟨gw', ow', none⟩) gk cw') (⟨.slice a0 l0.length k0, .slice a1 l0.length k1, l0⟩ :: rest) held' ∧ Went w B vl vw wx (.slice (some ⟨gl', ol', none⟩) gk cl') (.slice (some ⟨gw', ow', none⟩) gk cw'))
          case first =>
            go_region_with (go_at_call 16; refine (HS.out _ (by first | exact Like.refl _ | exact (Like.refl _).drew)).mono ?_; rintro e w5 ⟨rfl, ho5⟩; have hA5 := HA5.out w5 ho5; have z1 := hA5.c3; have z2 := hA5.free 3)
            all_goals
              go_wp2_with fail
              go_meet
            all_goals exact HF.out w5 ho5
          case rest =>
            obtain ⟨hI5, hw5⟩ := hcut
            have y0 := hI5.at_.c0
            have y2 := hI5.at_.c2
            have y3 := hI5.at_.free 2
            have y4 := hI5.lists.form (by simp)
            obtain ⟨_, _, _, hyv, -, -, -, -, hyc⟩ := y4
            simp only [List.map_cons, List.length_cons, List.length_map, Value.slice.injEq, Option.some.injEq, Addr.mk.injEq, and_true] at hyv
            obtain ⟨⟨rfl, rfl⟩, -, rfl⟩ := hyv
            have y5 := hyc 0 (by simp)
            simp only [List.map_cons, List.getElem_cons_zero, Nat.add_zero] at y5
            clear hyc
            go_wp2
            go_region
            obtain ⟨w6, hw6⟩ : ∃ x, x = (wc.setCell ⟨B, 2, none⟩ (.int .i64 (wrap64 (wrap64 (held' - k0) - 1)))).drew := ⟨_, rfl⟩
            have hO6 : Only wc w6 fun k => k = B := by
              have h := Only.set (S := fun k => k = B) (w := wc) B 2 (.int .i64 (wrap64 (wrap64 (held' - k0) - 1))) rfl
              rw [hw6]; exact ⟨h.os, h.tape, h.output, h.size, h.block⟩
            have hI6 := hI5.move hO6 (by rw [hw6]; exact hI5.at_.set2 (wrap64 (wrap64 (held' - k0) - 1)))
            have hw6' := hw5.move hO6 rfl rfl
            rw [← hw6]
            have m0 := hI6.at_.c0
            have m1 := hI6.at_.c1
            have n0 := hI6.at_.free 0
            have n1' := hI6.at_.free 1
            clear hw6 hO6 y0 y2 y3 y5 hI5 hw5
            have hgcl : 1 < cl' := by omega
            have hgcw : 1 < cw' := by omega
            have hO7 : Only w6 ((w6.setCell ⟨B, 0, none⟩ (.slice (some ⟨gl', ol' + 1, none⟩) rest.length (cl' - 1))).setCell ⟨B, 1, none⟩ (.slice (some ⟨gw', ow' + 1, none⟩) rest.length (cw' - 1))) fun k => k = B :=
              (Only.set (S := fun k => k = B) B 0 _ rfl).trans (Only.set (S := fun k => k = B) B 1 _ rfl) (fun _ _ h => h)
            have hI7 := hI6.cut hk'.symm hk'.symm hO7 ((hI6.at_.set0 _).set1 _)
            have hw7 := hw6'.move (vl2 := .slice (some ⟨gl', ol' + 1, none⟩) rest.length (cl' - 1)) (vw2 := .slice (some ⟨gw', ow' + 1, none⟩) rest.length (cw' - 1)) hO7 rfl rfl
            have e : rest.length = gk - 1 := by omega
            have HE : Hid (rest.length = gk - 1) := e
            rw [e] at hI7 hw7
            clear hI6 hw6' hO7 e
            have HK : Hid (rest.length + 1 = gk) := hk'
            have hsuf' : rest <:+ X := (List.suffix_cons _ _).trans hsuf
            clear hk hk' hsuf HS HA5 ho0 ho1 hIr hwr
            go_wp2
            go_roundg (gk - 1)
            case measure => omega
            case rel => exact ⟨_, _, rest, _, HE.out, by omega, hsuf', hI7, hw7⟩
set_option maxRecDepth 100000 in
set_option maxHeartbeats 16000000 in
theorem stays_any (w : World) (base B : Nat) (vl vw : Value) (es : List Ent) (held : Int) (hI : BookInv w base B vl vw es held) (h0 : 0 < es.length) :
    Calls Tryd.prog 23 #[.pointer (some ⟨B, 0, none⟩)] w fun e w' => e = .returned (.bool true) ∧ BookInv w' base B vl vw es held ∧ Only w w' fun k => k = B := by
  obtain ⟨gl, ol, cl, rfl, -, -, hcl, hclm, -⟩ := hI.lists.form (by rw [List.length_map]; exact h0)
  obtain ⟨gw, ow, cw, rfl, -, -, hcw, hcwm, -⟩ := hI.was.form (by rw [List.length_map]; exact h0)
  simp only [List.length_map] at hI hcl hcw ⊢
  obtain ⟨n, hn⟩ : ∃ n, n = es.length := ⟨_, rfl⟩
  rw [← hn] at hI hcl hcw h0 ⊢
  have HN : Hid (n = es.length) := hn
  have HI : Hid (BookInv w base B (.slice (some ⟨gl, ol, none⟩) n cl) (.slice (some ⟨gw, ow, none⟩) n cw) es held) := hI
  have hn63 : n ≤ 9223372036854775807 := by unfold maxLen at hclm; omega
  clear hn hI hclm hcwm
  go_enter Tryd.func23, Tryd.ntmps23
  go_wp2
  go_loopg [3] n (fun k i wr => ∃ q : Nat, q ≤ n ∧ k = n - q ∧ i = .int .i64 q ∧ BookInv wr base B (.slice (some ⟨gl, ol, none⟩) n cl) (.slice (some ⟨gw, ow, none⟩) n cw) es held ∧ Only w wr fun k => k = B)
  case atStart => exact ⟨0, Nat.zero_le _, rfl, rfl, HI.out, Only.refl _ _⟩
  case round =>
    obtain ⟨q, hq, rfl, rfl, hIr, hor⟩ := hrel
    have b0 := hIr.at_.c0
    have b1 := hIr.at_.c1
    have b3 := hIr.at_.c3
    by_cases hlt : q < n
    · obtain ⟨_, _, _, e1, -, -, -, -, hlc⟩ := hIr.lists.form (by rw [List.length_map, ← HN.out]; omega)
      obtain ⟨_, _, _, e2, -, -, -, -, hwc⟩ := hIr.was.form (by rw [List.length_map, ← HN.out]; omega)
      simp only [Value.slice.injEq, Option.some.injEq, Addr.mk.injEq, and_true] at e1 e2
      obtain ⟨⟨rfl, rfl⟩, -, rfl⟩ := e1
      obtain ⟨⟨rfl, rfl⟩, -, rfl⟩ := e2
      have hqe : q < es.length := by rw [← HN.out]; exact hlt
      have c0 := hlc q (by rw [List.length_map]; exact hqe)
      have c1 := hwc q (by rw [List.length_map]; exact hqe)
      simp only [List.getElem_map] at c0 c1
      obtain ⟨ho0, ho1⟩ := hIr.ents es[q] (List.getElem_mem hqe)
      obtain ⟨e0, he0⟩ : ∃ e0, e0 = es[q] := ⟨_, rfl⟩
      rw [← he0] at c0 c1 ho0 ho1
      clear he0 hlc hwc hqe
      obtain ⟨v0, u0, l0⟩ := e0
      obtain ⟨a0, k0, hv0⟩ := ho0.shape
      obtain ⟨a1, k1, hu0⟩ := ho1.shape
      simp only at hv0 hu0 ho0 ho1 c0 c1
      subst hv0
      subst hu0
      have HS := same_step_like (wr := wr) ho0 ho1
      have HF : Hid (∀ w5, (Only wr w5 fun _ => False) → BookInv (w5.setCell ⟨B, 3, none⟩ (.bool false)) base B (.slice (some ⟨gl, ol, none⟩) n cl) (.slice (some ⟨gw, ow, none⟩) n cw) es held ∧ Only w (w5.setCell ⟨B, 3, none⟩ (.bool false)) fun k => k = B) := fun w5 ho => by
        have ho' : Only wr w5 fun k => k = B := ho.wider (fun _ _ h => h.elim)
        have hA := hIr.at_.kept (ho.block B hIr.at_.lt (fun h => h))
        have h1 := hIr.move ho' hA
        have h2 := Only.set (S := fun k => k = B) (w := w5) B 3 (.bool false) rfl
        exact ⟨h1.move h2 hA.set3, (hor.trans ho' (fun _ _ h => h)).trans h2 (fun _ _ h => h)⟩
      have HA5 : Hid (∀ w5, (Only wr w5 fun _ => False) → BookAt w5 B (.slice (some ⟨gl, ol, none⟩) n cl) (.slice (some ⟨gw, ow, none⟩) n cw) held) := fun w5 ho => hIr.at_.kept (ho.block B hIr.at_.lt (fun h => h))
      clear hIr hor ho0 ho1
      go_wp2
      refine wp_region_move_tail (C := fun w' => ∃ n, w' = wr.drewN n) 20 (.tmp 0) rfl rfl (by kernel_rfl) (by kernel_rfl) ⟨1, rfl⟩ (fun _ _ _ _ h => h) ?_
      simp only [Nat.reduceSub, List.take_succ_cons, List.take_zero, List.drop_succ_cons, List.drop_zero]
      go_simp
      repeat (go_big_quiet_step (fail))
      refine wpQuiet_nil ?_
      intro nq
      clear b0 b1 b3 c0 c1
      go_wp2_with fail
      refine (HS.out (wr.drewN nq) ⟨rfl, rfl, rfl, rfl⟩).mono ?_; rintro e w5 ⟨rfl, ho5⟩
      have hA5 := HA5.out w5 ho5
      have z1 := hA5.c3
      have z2 := hA5.free 3
      have hF := HF.out w5 ho5
      clear HF HA5 HS ho5 hA5
      go_wp2_with fail
      go_roundg (n - (q + 1))
      case measure => omega
      case rel => exact ⟨q + 1, by omega, rfl, by go_num, hF.1, hF.2⟩
    · go_wp2
      go_ret
      exact ⟨rfl, hIr, hor⟩
/-- Blocks that Keep may write: the book's own cells and rows. -/
def Wk (w : World) (base k : Nat) : Prop := base ≤ k ∧ (TyB w 34 k ∨ TyB w 35 k)
/-- Blocks that Apart may write: the lists besides. -/
def Wr (w : World) (base k : Nat) : Prop := base ≤ k ∧ (TyB w 34 k ∨ TyB w 35 k ∨ TyB w 3 k)
theorem BookInv.wk {w : World} {base B : Nat} {vl vw : Value} {es : List Ent} {held : Int} (h : BookInv w base B vl vw es held) (hB : base ≤ B) : ∀ k, bookS B vl vw k → Wk w base k := by
  rintro k (rfl | h1 | h1)
  · exact ⟨hB, .inl ⟨_, h.at_⟩⟩
  · obtain ⟨hb, cur, hc⟩ := h.lists.block h1
    exact ⟨hb, .inr ⟨cur, hc⟩⟩
  · obtain ⟨hb, cur, hc⟩ := h.was.block h1
    exact ⟨hb, .inr ⟨cur, hc⟩⟩
/-- The lists' blocks lie under s. -/
def Bnd (es : List Ent) (s : Nat) : Prop := ∀ e ∈ es, ∀ g, ob e.v = some g → g < s
theorem Bnd.mono {es : List Ent} {s s' : Nat} (h : Bnd es s) (hs : s ≤ s') : Bnd es s' := fun e he g hg => Nat.lt_of_lt_of_le (h e he g hg) hs
theorem BookInv.bnd {w : World} {base B : Nat} {vl vw : Value} {es : List Ent} {held : Int} (h : BookInv w base B vl vw es held) : Bnd es w.heap.size := fun e he g hg => by
  obtain ⟨_, cur, hc⟩ := (h.ents e he).1.block hg
  exact (Array.getElem?_eq_some_iff.1 hc).1
theorem Bnd.fresh {es : List Ent} {s : Nat} (h : Bnd es s) {w : World} {v : Value} {l : List Int} (hv : OV w s v l) : ∀ e ∈ es, ∀ g, ob e.v = some g → ob v ≠ some g := by
  intro e he g hg hg'
  have := h e he g hg
  have := (hv.block hg').1
  omega
theorem KeepPost.use {w w' : World} {base B : Nat} {vl vw v : Value} {es : List Ent} {l : List Int} {held : Int} (h : KeepPost w base B vl vw es v l w') (hI : BookInv w base B vl vw es held) (hB : base ≤ B) {s s' : Nat} (hb : Bnd es s) (hs : s ≤ s') (hv : ∀ g, ob v = some g → g < s') :
    ∃ vl' vw' es' held', 0 < es'.length ∧ es'.length ≤ es.length + 1 ∧ BookInv w' base B vl' vw' es' held' ∧ Bnd es' s' ∧ Only w w' (Wk w base) := by
  obtain ⟨vl', vw', es', held', u, h1, h2, h3, h4⟩ := h
  refine ⟨vl', vw', es', held', h1, by have := h2.length_le; simpa using this, h3, fun e he => ?_, h4.only.wider (fun i _ hi => hI.wk hB i hi)⟩
  have he' := h2.subset he
  rw [List.mem_append] at he'
  rcases he' with he' | he'
  · exact (hb.mono hs) e he'
  · simp only [List.mem_singleton] at he'
    rw [he']; exact hv
/-- What turns blocks of other types lets a book be. -/
theorem BookInv.over {w w1 : World} {base B : Nat} {vl vw : Value} {es : List Ent} {held : Int} (h : BookInv w base B vl vw es held) (hB : base ≤ B) {S : Nat → Prop} (ho : Only w w1 S) (hS : ∀ k, S k → ¬ Wr w base k) : BookInv w1 base B vl vw es held :=
  have hr : ∀ k, bookS B vl vw k → k < w.heap.size → w1.heap[k]? = w.heap[k]? := fun k hk hlt => ho.block k hlt (fun hs => hS k hs (by
    obtain ⟨h1, h2⟩ := h.wk hB k hk
    exact ⟨h1, h2.elim .inl (fun h => .inr (.inl h))⟩))
  have hi : ∀ {v : Value} {l : List Int}, OV w base v l → OV w1 base v l := fun {v l} hx => hx.kept fun g hg => by
    obtain ⟨h1, cur, hc⟩ := hx.block hg
    exact ho.block g (Array.getElem?_eq_some_iff.1 hc).1 (fun hs => hS g hs ⟨h1, .inr (.inr ⟨cur, hc⟩)⟩)
  ⟨h.at_.kept (hr B (.inl rfl) h.at_.lt), h.lists.kept fun g hg => hr g (.inr (.inl hg)) (h.lists.lt g hg).2, h.was.kept fun g hg => hr g (.inr (.inr hg)) (h.was.lt g hg).2, fun e he => ⟨hi (h.ents e he).1, hi (h.ents e he).2⟩, h.two, h.pair⟩
theorem OV.over {w w1 : World} {base : Nat} {v : Value} {l : List Int} (h : OV w base v l) {S : Nat → Prop} (ho : Only w w1 S) (hS : ∀ k, S k → ¬ TyB w 3 k) : OV w1 base v l := h.kept fun g hg => by
  obtain ⟨h1, cur, hc⟩ := h.block hg
  exact ho.block g (Array.getElem?_eq_some_iff.1 hc).1 (fun hs => hS g hs ⟨cur, hc⟩)
theorem book_new (w : World) {base : Nat} : BookInv (w.alloc (.cells #[.slice none 0 0, .slice none 0 0, .int .i64 0, .bool false] 34)) base w.heap.size (.slice none 0 0) (.slice none 0 0) [] 0 :=
  ⟨heap_alloc_new w _, SRow.nil _ _, SRow.nil _ _, fun e he => (by simp at he), fun g hg => (by cases hg), List.Pairwise.nil⟩
/-- The mark of list i, whatever the place. -/
def markV (i j : Nat) : Value := .int .i64 (-1000 - (i : Int))
def markC (i j : Nat) : List Value := [.int .i64 (-1000 - (i : Int))]
set_option maxHeartbeats 400000 in
theorem mark_any (i j : Nat) (w : World) (hi : i ≤ 1000000) (hj : j ≤ 9223372036854775807) :
    Calls Tryd.prog 11 #[.int .i64 i, .int .i64 j] w fun e w' => e = .returned (markV i j) ∧ Below w.heap.size w w' := by
  go_enter Tryd.func11, Tryd.ntmps11
  go_wp2_with fail
  go_ret
  exact ⟨rfl, Below.refl _ _⟩
/-- The value's block lies there, of as many cells as it has room. -/
def BlkE (w : World) (v : Value) : Prop := ∀ g n c, v = .slice (some ⟨g, 0, none⟩) n c → 0 < c → ∃ cur : Array Value, w.heap[g]? = some (.cells cur 3 (0, 0)) ∧ cur.size = c * 1
/-- Its cells are the marks of i, those of the first m places. -/
def Marks (w : World) (v : Value) (i m : Nat) : Prop := ∀ g n c, v = .slice (some ⟨g, 0, none⟩) n c → 0 < c → ∃ cur : Array Value, w.heap[g]? = some (.cells cur 3 (0, 0)) ∧ cur.size = c * 1 ∧ ∀ j, j < m → j < c → ∀ t, t < 1 → cur[j * 1 + t]? = (markC i j)[t]?
theorem OV.blk {w : World} {base : Nat} {v : Value} {l : List Int} (h : OV w base v l) : BlkE w v := by
  intro g n c hv hc
  obtain ⟨a, c', e, h1, h2, h3⟩ := h
  rw [e] at hv
  simp only [Value.slice.injEq] at hv
  obtain ⟨rfl, rfl, rfl⟩ := hv
  rcases h3 with ⟨h3, -⟩ | ⟨g', cur, e2, hb, hh, hs, _⟩
  · omega
  · simp only [Option.some.injEq, Addr.mk.injEq, and_true] at e2
    subst e2
    exact ⟨cur, hh, hs⟩
/-- The world with the mark of i written at place j of block g. -/
def marked (w : World) (g i j : Nat) : World := w.setCells g (j * 1) (markC i j)
theorem marked_eq (w : World) (g i j : Nat) : marked w g i j = (w.setCell ⟨g, j, none⟩ (.int .i64 (-1000 - (i : Int)))) := by unfold marked; rw [Nat.mul_one]; rfl
theorem marked_other (w : World) (g i j k : Nat) (h : k ≠ g) : (marked w g i j).heap[k]? = w.heap[k]? := by
  rw [marked_eq, Below.heap_setCell _ _ _ _ h]
theorem marked_block {w : World} {g i j : Nat} {cur : Array Value} (h : w.heap[g]? = some (.cells cur 3 (0, 0))) :
    (marked w g i j).heap[g]? = some (.cells (cur.setIfInBounds (j) (.int .i64 (-1000 - (i : Int)))) 3 (0, 0)) := by
  rw [marked_eq]
  exact block_setCell h _
theorem marked_only {w : World} {S : Nat → Prop} (g i j : Nat) (h : S g) : Only w (marked w g i j) S := by
  rw [marked_eq]
  exact Only.set (S := S) (w := w) g (j) (.int .i64 (-1000 - (i : Int))) h
theorem Marks.set {w : World} {g n c i j : Nat} (h : Marks w (.slice (some ⟨g, 0, none⟩) n c) i j) (hj : j < c) : Marks (marked w g i j) (.slice (some ⟨g, 0, none⟩) n c) i (j + 1) := by
  intro g' n' c' hv hc
  simp only [Value.slice.injEq, Option.some.injEq, Addr.mk.injEq, and_true] at hv
  obtain ⟨rfl, rfl, rfl⟩ := hv
  obtain ⟨cur, h1, h2, h3⟩ := h g n c rfl hc
  refine ⟨_, marked_block h1, by simpa using h2, fun k hk hkc t ht => ?_⟩
  simp only [Array.getElem?_setIfInBounds]
  by_cases e : j = k
  · subst e
    have ht' : t = 0 := by omega
    rcases ht' with rfl <;> simp [markC] <;> omega
  · rw [if_neg (by omega)]
    exact h3 k (by omega) hkc t ht
theorem Marks.kept {w w' : World} {v : Value} {i m : Nat} (h : Marks w v i m) (hk : ∀ g, ob v = some g → w'.heap[g]? = w.heap[g]?) : Marks w' v i m := fun g n c hv hc => by
  obtain ⟨cur, h1, h2, h3⟩ := h g n c hv hc
  exact ⟨cur, by rw [hk g (by rw [hv]; exact ob_some hc)]; exact h1, h2, h3⟩
/-- The first q lists are written full. -/
structure Ph (w : World) (base B : Nat) (vl vw : Value) (es : List Ent) (held : Int) (q : Nat) (wr : World) : Prop where
  at_ : BookAt wr B vl vw held
  lists : SRow wr base vl (es.map Ent.v)
  done : ∀ i (h : i < es.length), i < q → ∀ m, Marks wr es[i].v i m
  blk : ∀ e ∈ es, BlkE wr e.v
  own : ∀ e ∈ es, ∀ g, ob e.v = some g → Wr w base g ∧ g ≠ B ∧ vl.ownBlock ≠ some g
  only : Only w wr (Wr w base)
theorem Ph.start {w wr : World} {base B : Nat} {vl vw : Value} {es : List Ent} {held : Int} (h0 : BookInv w base B vl vw es held) (h : BookInv wr base B vl vw es held) (hb : Only w wr (Wr w base)) : Ph w base B vl vw es held 0 wr :=
  ⟨h.at_, h.lists, fun i _ hi => by omega, fun e he => (h.ents e he).1.blk, fun e he g hg => by
    obtain ⟨h1, cur, hc⟩ := (h0.ents e he).1.block hg
    have := h0.notBook (h0.ents e he).1 hg
    exact ⟨⟨h1, .inr (.inr ⟨cur, hc⟩)⟩, fun e => this (.inl e), fun e => this (.inr (.inl e))⟩, hb⟩
theorem Ph.step {w wr : World} {base B : Nat} {vl vw : Value} {es : List Ent} {held : Int} {q g n c j : Nat} (h : Ph w base B vl vw es held q wr) (hP : es.Pairwise fun e f => ∀ g, ob e.v = some g → ob f.v ≠ some g) (hq : q < es.length)
    (hv : es[q].v = .slice (some ⟨g, 0, none⟩) n c) (hm : Marks wr es[q].v q j) (hj : j < c) :
    Ph w base B vl vw es held q (marked wr g q j) ∧ Marks (marked wr g q j) es[q].v q (j + 1) := by
  have hmem : es[q] ∈ es := List.getElem_mem hq
  have hg : ob es[q].v = some g := by rw [hv]; exact ob_some (by omega)
  obtain ⟨o1, o2, o3⟩ := h.own _ hmem g hg
  have hset : ∀ k, k ≠ g → (marked wr g q j).heap[k]? = wr.heap[k]? := fun k hk => marked_other wr g q j k hk
  refine ⟨⟨h.at_.kept (hset B (fun e => o2 e.symm)), h.lists.kept fun k hk => hset k (by rintro rfl; exact o3 hk), fun i hi hiq m => (h.done i hi hiq m).kept fun k hk => hset k (by
    rintro rfl
    exact (List.pairwise_iff_getElem.1 hP i q hi hq hiq) k hk hg), fun e he => ?_, h.own, h.only.trans (marked_only g q j (S := Wr w base) o1) (fun _ _ h => h)⟩, ?_⟩
  · intro g' n' c' hv' hc'
    obtain ⟨cur, h1, h2⟩ := h.blk e he g' n' c' hv' hc'
    by_cases hgg : g' = g
    · subst hgg; exact ⟨_, marked_block h1, by simpa using h2⟩
    · exact ⟨cur, by rw [hset g' hgg]; exact h1, h2⟩
  · rw [hv] at hm ⊢
    exact hm.set hj
theorem Ph.next {w wr : World} {base B : Nat} {vl vw : Value} {es : List Ent} {held : Int} {q : Nat} (h : Ph w base B vl vw es held q wr) (hq : q < es.length) (hm : ∀ m, Marks wr es[q].v q m) : Ph w base B vl vw es held (q + 1) wr :=
  ⟨h.at_, h.lists, fun i hi hiq m => by
    rcases Nat.lt_or_ge i q with hlt | hge
    · exact h.done i hi hlt m
    · have : i = q := by omega
      subst this; exact hm m, h.blk, h.own, h.only⟩
theorem Ph.drewN {w wr : World} {base B : Nat} {vl vw : Value} {es : List Ent} {held : Int} {q : Nat} (h : Ph w base B vl vw es held q wr) (k : Nat) : Ph w base B vl vw es held q (wr.drewN k) :=
  ⟨h.at_, h.lists, h.done, h.blk, h.own, h.only.drewN k⟩
theorem Marks.over {w w' : World} {v : Value} {i m : Nat} (h : Marks w v i m) (hb : Below w.heap.size w w') : Marks w' v i m := fun g n c hv hc => by
  obtain ⟨cur, h1, h2, h3⟩ := h g n c hv hc
  exact ⟨cur, (hb.block g (Array.getElem?_eq_some_iff.1 h1).1).trans h1, h2, h3⟩
theorem Ph.over {w wr w' : World} {base B : Nat} {vl vw : Value} {es : List Ent} {held : Int} {q : Nat} (h : Ph w base B vl vw es held q wr) (hb : Below wr.heap.size wr w') : Ph w base B vl vw es held q w' :=
  ⟨h.at_.kept (hb.block B h.at_.lt), h.lists.kept fun g hg => hb.block g (h.lists.lt g hg).2, fun i hi hq m => (h.done i hi hq m).over hb, fun e he g n c hv hc => by
    obtain ⟨cur, h1, h2⟩ := h.blk e he g n c hv hc
    exact ⟨cur, (hb.block g (Array.getElem?_eq_some_iff.1 h1).1).trans h1, h2⟩, h.own, h.only.trans (Only.ofBelow (S := fun _ => False) hb) (fun _ _ h => h.elim)⟩
theorem Marks.full {w : World} {g n c i : Nat} (h : Marks w (.slice (some ⟨g, 0, none⟩) n c) i c) (m : Nat) : Marks w (.slice (some ⟨g, 0, none⟩) n c) i m := fun g' n' c' hv hc => by
  obtain ⟨cur, h1, h2, h3⟩ := h g' n' c' hv hc
  simp only [Value.slice.injEq] at hv
  obtain ⟨-, -, rfl⟩ := hv
  exact ⟨cur, h1, h2, fun j _ hj => h3 j hj hj⟩
theorem Marks.ofNil {w : World} {a : Option Addr} {n i m : Nat} : Marks w (.slice a n 0) i m := fun g' n' c' hv hc => by
  simp only [Value.slice.injEq] at hv
  obtain ⟨-, -, rfl⟩ := hv
  omega
/-- The same value but for its length. -/
theorem Marks.len {w : World} {g n n' c i m : Nat} (h : Marks w (.slice (some ⟨g, 0, none⟩) n c) i m) : Marks w (.slice (some ⟨g, 0, none⟩) n' c) i m := fun g' n2 c' hv hc => by
  simp only [Value.slice.injEq, Option.some.injEq, Addr.mk.injEq, and_true] at hv
  obtain ⟨rfl, -, rfl⟩ := hv
  exact h g n c rfl hc
theorem BlkE.marks {w : World} {g n c i : Nat} (h : BlkE w (.slice (some ⟨g, 0, none⟩) n c)) : Marks w (.slice (some ⟨g, 0, none⟩) n c) i 0 := fun g' n' c' hv hc => by
  obtain ⟨cur, x1, x2⟩ := h g' n' c' hv hc
  exact ⟨cur, x1, x2, fun j hj => by omega⟩
theorem Marks.cell {w : World} {g n c i m j : Nat} (h : Marks w (.slice (some ⟨g, 0, none⟩) n c) i m) (hj : j < c) (t : Nat) (ht : t < 1) : ∃ v, w.cell? ⟨g, j * 1 + t, none⟩ = some v ∧ w.frozen? ⟨g, j * 1 + t, none⟩ = false := by
  obtain ⟨cur, h1, h2, _⟩ := h g n c rfl (by omega)
  exact ⟨cur[j * 1 + t], by rw [cell_of_block h1, Array.getElem?_eq_getElem (by omega)], unfrozen_of_block h1 _⟩
set_option maxRecDepth 100000 in
set_option maxHeartbeats 8000000 in
theorem apart_any (w : World) (base B : Nat) (vl vw : Value) (es : List Ent) (held : Int) (hI : BookInv w base B vl vw es held) (h0 : 0 < es.length) (hes : es.length ≤ 1000000) (hBb : base ≤ B) :
    Calls Tryd.prog 10 #[.pointer (some ⟨B, 0, none⟩), .func (.func 11) #[] #[]] w fun e w' => e = .returned (.bool true) ∧ Only w w' (Wr w base) := by
  have hST := stays_any w base B vl vw es held hI h0
  obtain ⟨gl, ol, cl, rfl, -, -, hcl, hclm, -⟩ := hI.lists.form (by rw [List.length_map]; exact h0)
  simp only [List.length_map] at hI hcl hST
  have HP : Hid (es.Pairwise fun e f => ∀ g, ob e.v = some g → ob f.v ≠ some g) := hI.pair
  have hwB : Wr w base B := ⟨hBb, .inl ⟨_, hI.at_⟩⟩
  have HWB : Hid (Wr w base B) := hwB
  obtain ⟨n, hn⟩ : ∃ n, n = es.length := ⟨_, rfl⟩
  rw [← hn] at hI hcl h0 hes hST
  have HN : Hid (n = es.length) := hn
  have HI0 : Hid (BookInv w base B (.slice (some ⟨gl, ol, none⟩) n cl) vw es held) := hI
  clear hn hclm hI
  go_enter Tryd.func10, Tryd.ntmps10
  go_wp2_with (go_at_call 23; refine hST.mono ?_; rintro e w1 ⟨rfl, hI1, ho1⟩)
  have hb1 : Only w w1 (Wr w base) := ho1.wider (fun i _ hi => by rw [hi]; exact HWB.out)
  have HE : Hid (∀ e ∈ es, OV w1 base e.v e.l) := fun e he => (hI1.ents e he).1
  have hPh := Ph.start HI0.out hI1 hb1
  clear ho1 hb1 hI1 HI0 hST hwB
  go_loopg [5] n (fun k i wr => ∃ q : Nat, q ≤ n ∧ k = n - q ∧ i = .int .i64 q ∧ Ph w base B (.slice (some ⟨gl, ol, none⟩) n cl) vw es held q wr)
  case atStart => exact ⟨0, Nat.zero_le _, rfl, rfl, hPh⟩
  case round =>
    obtain ⟨q, hq, rfl, rfl, hr⟩ := hrel
    have b0 := hr.at_.c0
    by_cases hlt : q < n
    · obtain ⟨_, _, _, e1, -, -, -, -, hlc⟩ := hr.lists.form (by rw [List.length_map, ← HN.out]; omega)
      simp only [Value.slice.injEq, Option.some.injEq, Addr.mk.injEq, and_true] at e1
      obtain ⟨⟨rfl, rfl⟩, -, rfl⟩ := e1
      have hqe : q < es.length := by rw [← HN.out]; exact hlt
      have c0 := hlc q (by rw [List.length_map]; exact hqe)
      simp only [List.getElem_map] at c0
      rcases (HE.out es[q] (List.getElem_mem hqe)).heads with ⟨a, hv, -⟩ | ⟨g, c, hv, hc0, hc63, hlc'⟩
      · have HQ : Hid (∃ h : q < es.length, ∃ a, es[q].v = .slice a 0 0) := ⟨hqe, a, hv⟩
        rw [hv] at c0
        clear hv hqe hlc
        cases a with
        | none =>
          go_wp2
          go_quiet (fail)
          go_wp2
          refine wp_loop_rounds 1 ?_
          rw [rounds_succ]
          go_wp2
          go_roundg (n - (q + 1))
          case measure => omega
          case rel =>
            obtain ⟨hq', a', hv⟩ := HQ.out
            exact ⟨q + 1, by omega, rfl, by go_num, (hr.drewN nq).next hq' (fun m => by rw [hv]; exact Marks.ofNil)⟩
        | some a =>
          go_wp2
          go_quiet (fail)
          go_wp2
          refine wp_loop_rounds 1 ?_
          rw [rounds_succ]
          go_wp2
          go_roundg (n - (q + 1))
          case measure => omega
          case rel =>
            obtain ⟨hq', a', hv⟩ := HQ.out
            exact ⟨q + 1, by omega, rfl, by go_num, (hr.drewN nq).next hq' (fun m => by rw [hv]; exact Marks.ofNil)⟩
      · have HQ : Hid (∃ h : q < es.length, es[q].v = .slice (some ⟨g, 0, none⟩) es[q].l.length c) := ⟨hqe, hv⟩
        rw [hv] at c0
        obtain ⟨ln, hln⟩ : ∃ ln, ln = es[q].l.length := ⟨_, rfl⟩
        rw [← hln] at c0 hlc'
        clear hv hqe hlc hln
        go_wp2
        go_quiet (fail)
        go_wp2
        have hPn := hr.drewN nq
        obtain ⟨wq, hwq⟩ : ∃ x, x = wr.drewN nq := ⟨_, rfl⟩
        rw [← hwq] at hPn ⊢
        clear hwq hr b0 c0
        go_loopg [7] c (fun k i wy => ∃ j : Nat, j ≤ c ∧ k = c - j ∧ i = .int .i64 j ∧ Ph w base B (.slice (some ⟨gl, ol, none⟩) n cl) vw es held q wy ∧ Marks wy (.slice (some ⟨g, 0, none⟩) ln c) q j)
        case atStart =>
          obtain ⟨hq', hv⟩ := HQ.out
          refine ⟨0, Nat.zero_le _, rfl, rfl, hPn, ?_⟩
          have := hPn.blk es[q] (List.getElem_mem hq')
          rw [hv] at this
          exact this.marks.len
        case round =>
          obtain ⟨j, hj, rfl, rfl, hrj, hm⟩ := hrel
          by_cases hjc : j < c
          · have HM := fun wx => mark_any q j wx (by omega) (by omega)
            unfold markV at HM
            have HRJ : Hid (Ph w base B (.slice (some ⟨gl, ol, none⟩) n cl) vw es held q wr) := hrj
            have HMM : Hid (Marks wr (.slice (some ⟨g, 0, none⟩) ln c) q j) := hm
            clear hrj hm
            go_wp2_with fail
            refine (HM _).mono ?_; rintro e w5 ⟨rfl, hb5⟩
            have hm := HMM.out.over hb5
            have hrj := HRJ.out.over hb5
            obtain ⟨x0, c0, f0⟩ := hm.cell hjc 0 (by omega)
            rw [Nat.add_zero, Nat.mul_one] at c0 f0
            clear HM hb5
            go_wp2_with fail
            go_roundg (c - (j + 1))
            case measure => omega
            case rel =>
              obtain ⟨hq', hv⟩ := HQ.out
              have hm' : Marks w5 es[q].v q j := by
                rw [hv]; exact hm.len
              obtain ⟨s1, s2⟩ := hrj.step HP.out hq' hv hm' hjc
              rw [marked_eq] at s1 s2
              refine ⟨j + 1, by omega, rfl, by go_num, s1, ?_⟩
              rw [hv] at s2
              exact s2.len
          · go_wp2
            go_roundg (n - (q + 1))
            case measure => omega
            case rel =>
              obtain ⟨hq', hv⟩ := HQ.out
              have hjc' : j = c := by omega
              subst hjc'
              exact ⟨q + 1, by omega, rfl, by go_num, hrj.next hq' (fun m => by
                rw [hv]; exact (hm.full m).len)⟩
    · have hqn : q = n := by omega
      have HD : Hid (q = n) := hqn
      clear hPh
      go_wp2
      go_loopg [8] n (fun k i wx => ∃ p : Nat, p ≤ n ∧ k = n - p ∧ i = .int .i64 p ∧ Ph w base B (.slice (some ⟨gl, ol, none⟩) n cl) vw es held n wx)
      case atStart => exact ⟨0, Nat.zero_le _, rfl, rfl, by rw [HD.out] at hr; exact hr⟩
      case round =>
        obtain ⟨p, hp, rfl, rfl, hx⟩ := hrel
        clear hr b0 hlt hqn
        have b0 := hx.at_.c0
        by_cases hpn : p < n
        · obtain ⟨_, _, _, e1, -, -, -, -, hlc⟩ := hx.lists.form (by rw [List.length_map, ← HN.out]; omega)
          simp only [Value.slice.injEq, Option.some.injEq, Addr.mk.injEq, and_true] at e1
          obtain ⟨⟨rfl, rfl⟩, -, rfl⟩ := e1
          have hpe : p < es.length := by rw [← HN.out]; exact hpn
          have c0 := hlc p (by rw [List.length_map]; exact hpe)
          simp only [List.getElem_map] at c0
          have hdone := hx.done p hpe hpn
          rcases (HE.out es[p] (List.getElem_mem hpe)).heads with ⟨a, hv, -⟩ | ⟨g, c, hv, hc0, hc63, hlc'⟩
          · rw [hv] at c0
            clear hv hpe hlc hdone
            cases a with
            | none =>
              go_wp2
              go_quiet (fail)
              go_wp2
              refine wp_loop_rounds 1 ?_
              rw [rounds_succ]
              go_wp2
              go_roundg (n - (p + 1))
              case measure => omega
              case rel => exact ⟨p + 1, by omega, rfl, by go_num, hx.drewN nq⟩
            | some a =>
              go_wp2
              go_quiet (fail)
              go_wp2
              refine wp_loop_rounds 1 ?_
              rw [rounds_succ]
              go_wp2
              go_roundg (n - (p + 1))
              case measure => omega
              case rel => exact ⟨p + 1, by omega, rfl, by go_num, hx.drewN nq⟩
          · rw [hv] at c0 hdone
            obtain ⟨ln, hln⟩ : ∃ ln, ln = es[p].l.length := ⟨_, rfl⟩
            rw [← hln] at c0 hlc' hdone
            clear hv hpe hlc hln
            go_wp2
            go_quiet (fail)
            go_wp2
            have hPn := hx.drewN nq
            have hD : ∀ m, Marks (wr.drewN nq) (.slice (some ⟨g, 0, none⟩) ln c) p m := fun m => (hdone m).kept (fun _ _ => rfl)
            obtain ⟨wq, hwq⟩ : ∃ x, x = wr.drewN nq := ⟨_, rfl⟩
            rw [← hwq] at hPn hD ⊢
            clear hwq hx b0 c0 hdone
            have HDD : Hid (Marks wq (.slice (some ⟨g, 0, none⟩) ln c) p c) := hD c
            clear hD
            go_loopg [10] c (fun k i wy => ∃ j : Nat, j ≤ c ∧ k = c - j ∧ i = .int .i64 j ∧ Below wq.heap.size wq wy)
            case atStart => exact ⟨0, Nat.zero_le _, rfl, rfl, Below.refl _ _⟩
            case round =>
              obtain ⟨j, hj, rfl, rfl, hnd⟩ := hrel
              have HND : Hid (Below wq.heap.size wq wr) := hnd
              by_cases hjc : j < c
              · obtain ⟨cur, y1, y2, y3⟩ := (HDD.out.over hnd) g ln c rfl hc0
                have hcell : ∀ t, t < 1 → wr.cell? ⟨g, j * 1 + t, none⟩ = (markC p j)[t]? := fun t ht => by
                  rw [cell_of_block y1]; exact y3 j hjc hjc t ht
                have c0 := hcell 0 (by omega)
                rw [Nat.add_zero, Nat.mul_one] at c0
                simp only [markC, List.getElem?_cons_zero] at c0
                have HM := fun wx => mark_any p j wx (by omega) (by omega)
                unfold markV at HM
                clear y1 y2 y3 hnd hcell
                go_wp2_with fail
                have k0 := cell_regrown (w := wr) c0
                clear c0
                refine wp_region_quiet_tail (C := fun w' => ∃ p : Regrown, w' = grow (redrawn wr p.d) p.os) 8 (by kernel_rfl) (by kernel_rfl) ⟨⟨_, #[]⟩, by rw [grow_empty]; rfl⟩ ?_
                simp only [List.take_succ_cons, List.take_zero, List.drop_succ_cons, List.drop_zero]
                repeat (go_big_quiet_step (fail))
                refine wpQuiet_step (fun K hK => ?_)
                go_simp
                apply Exists.intro
                refine ⟨fun _ => ?_, hK _ ?_⟩
                · exact Calls.regrown_of (HM _)
                clear hK K
                refine wpQuiet_nil ?_
                intro W5 hw'
                have hb5 : Below wr.heap.size wr W5 := by
                  obtain ⟨⟨dq, osq⟩, rfl⟩ := hw'
                  exact below_regrown _ _ _
                clear k0 hw'
                have hb6 := HND.out.trans (hb5.mono HND.out.size)
                clear hb5
                go_wp2_with fail
                go_roundg (c - (j + 1))
                case measure => omega
                case rel => exact ⟨j + 1, by omega, rfl, by go_num, hb6⟩
              · clear hnd
                go_wp2
                go_roundg (n - (p + 1))
                case measure => omega
                case rel => exact ⟨p + 1, by omega, rfl, by go_num, hPn.over HND.out⟩
        · have n0 := hx.at_.free 0
          have n1 := hx.at_.free 1
          have n2 := hx.at_.free 2
          have b1 := hx.at_.c1
          have b2 := hx.at_.c2
          go_wp2
          go_ret
          exact ⟨rfl, ((hx.only.trans (Only.set (S := Wr w base) B 0 _ HWB.out) (fun _ _ h => h)).trans (Only.set (S := Wr w base) B 1 _ HWB.out) (fun _ _ h => h)).trans (Only.set (S := Wr w base) B 2 _ HWB.out) (fun _ _ h => h)⟩
end Go.Proofs.YtjbdhakogbolkabDoor.BKI
end
