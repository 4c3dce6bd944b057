/- (*tesserabook.Book).Apart of items: what it writes. -/
import Derived.Test.YthlcdaopldnocabIBookStays
import Derived.Test.YthlcdaopldnocabIMark
namespace Go.Proofs.Ythlcdaopldnocab
open Go.RowKit
open Go.Joins
/-- The value's block lies there, of as many cells as it has room. -/
def Blk (w : World) (v : Value) : Prop := ∀ g n c, v = .slice (some ⟨g, 0, none⟩) n c → ∃ cur : Array Value, w.heap[g]? = some (.cells cur 29 (0, 0)) ∧ cur.size = c * 4
/-- Its cells are the marks of i, those of the first m places. -/
def Marks (w : World) (v : Value) (i m : Nat) : Prop := ∀ g n c, v = .slice (some ⟨g, 0, none⟩) n c → ∃ cur : Array Value, w.heap[g]? = some (.cells cur 29 (0, 0)) ∧ cur.size = c * 4 ∧ ∀ j, j < m → j < c → ∀ t, t < 4 → cur[j * 4 + t]? = (markC i j)[t]?
theorem OwnI.blk {w : World} {base : Nat} {v : Value} {l : List It} (h : OwnI 29 w base v l) : Blk w v := by
  intro g n c hv
  rcases h.1.2 with ⟨h0, _⟩ | ⟨g', cap, cur, h1, _, hh, _, _, hs, _⟩
  · rw [h0] at hv; simp at hv
  · rw [h1] at hv
    simp only [Value.slice.injEq, Option.some.injEq, Addr.mk.injEq, and_true] at hv
    obtain ⟨rfl, -, rfl⟩ := hv
    exact ⟨cur, hh, by omega⟩
/-- nil, or at the head of a block. -/
theorem OwnI.heads {w : World} {base : Nat} {v : Value} {l : List It} (h : OwnI 29 w base v l) : (v = .slice none 0 0 ∧ l = []) ∨ ∃ g c, v = .slice (some ⟨g, 0, none⟩) l.length c ∧ c ≤ 9223372036854775807 ∧ l.length ≤ c := by
  rcases h.1.2 with ⟨h0, h1⟩ | ⟨g, cap, cur, h1, _, _, hn, hm, _⟩
  · exact .inl ⟨h0, List.eq_nil_of_length_eq_zero h1⟩
  · exact .inr ⟨g, cap, h1, by simpa [maxLen] using hm, hn⟩
theorem Marks.zero {w : World} {v : Value} (h : Blk w v) (i : Nat) : Marks w v i 0 := fun g n c hv => by
  obtain ⟨cur, h1, h2⟩ := h g n c hv
  exact ⟨cur, h1, h2, fun j hj => by omega⟩
/-- The world with the mark of i written at place j of block g. -/
def marked (w : World) (g i j : Nat) : World := w.setCells g (j * 4) (markC i j)
theorem marked_eq (w : World) (g i j : Nat) : marked w g i j = (((w.setCell ⟨g, j * 4, none⟩ (.int .i64 (-100 - (i : Int)))).setCell ⟨g, j * 4 + 1, none⟩ (.int .i64 (-(j : Int)))).setCell ⟨g, j * 4 + 2, none⟩ (.int .i32 0)).setCell ⟨g, j * 4 + 3, none⟩ (.bool false) := rfl
theorem marked_other (w : World) (g i j k : Nat) (h : k ≠ g) : (marked w g i j).heap[k]? = w.heap[k]? := by
  rw [marked_eq, Below.heap_setCell _ _ _ _ h, Below.heap_setCell _ _ _ _ h, Below.heap_setCell _ _ _ _ h, Below.heap_setCell _ _ _ _ h]
theorem marked_block {w : World} {g i j : Nat} {cur : Array Value} (h : w.heap[g]? = some (.cells cur 29 (0, 0))) :
    (marked w g i j).heap[g]? = some (.cells ((((cur.setIfInBounds (j * 4) (.int .i64 (-100 - (i : Int)))).setIfInBounds (j * 4 + 1) (.int .i64 (-(j : Int)))).setIfInBounds (j * 4 + 2) (.int .i32 0)).setIfInBounds (j * 4 + 3) (.bool false)) 29 (0, 0)) := by
  rw [marked_eq]
  exact block_setCell (block_setCell (block_setCell (block_setCell h _) _) _) _
theorem Marks.set {w : World} {g n c i j : Nat} (h : Marks w (.slice (some ⟨g, 0, none⟩) n c) i j) (hj : j < c) : Marks (marked w g i j) (.slice (some ⟨g, 0, none⟩) n c) i (j + 1) := by
  intro g' n' c' hv
  simp only [Value.slice.injEq, Option.some.injEq, Addr.mk.injEq, and_true] at hv
  obtain ⟨rfl, rfl, rfl⟩ := hv
  obtain ⟨cur, h1, h2, h3⟩ := h g n c rfl
  refine ⟨_, marked_block h1, by simpa using h2, fun k hk hkc t ht => ?_⟩
  simp only [Array.getElem?_setIfInBounds, Array.size_setIfInBounds]
  by_cases e : j = k
  · subst e
    have ht' : t = 0 ∨ t = 1 ∨ t = 2 ∨ t = 3 := by omega
    rcases ht' with rfl | rfl | rfl | rfl <;> simp [markC] <;> omega
  · rw [if_neg (by omega), if_neg (by omega), if_neg (by omega), if_neg (by omega)]
    exact h3 k (by omega) hkc t ht
theorem Marks.kept {w w' : World} {v : Value} {i m : Nat} (h : Marks w v i m) (hk : ∀ g, v.ownBlock = some g → w'.heap[g]? = w.heap[g]?) : Marks w' v i m := fun g n c hv => by
  obtain ⟨cur, h1, h2, h3⟩ := h g n c hv
  exact ⟨cur, by rw [hk g (by rw [hv]; rfl)]; exact h1, h2, h3⟩
theorem Blk.kept {w w' : World} {v : Value} (h : Blk w v) (hk : ∀ g, v.ownBlock = some g → w'.heap[g]? = w.heap[g]?) : Blk w' v := fun g n c hv => by
  obtain ⟨cur, h1, h2⟩ := h g n c hv
  exact ⟨cur, by rw [hk g (by rw [hv]; rfl)]; exact h1, h2⟩
/-- The first q lists are written full. -/
structure Ph (w : World) (base B : Nat) (vl vw : Value) (es : List Ent) (held : Int) (q : Nat) (wr : World) : Prop where
  at_ : BookAt wr B vl vw held
  lists : SRow wr base vl (es.map Ent.v)
  done : ∀ i (h : i < es.length), i < q → ∀ m, Marks wr es[i].v i m
  blk : ∀ e ∈ es, Blk wr e.v
  own : ∀ e ∈ es, ∀ g, e.v.ownBlock = some g → base ≤ g ∧ g ≠ B ∧ vl.ownBlock ≠ some g
  below : Below base w wr
theorem Ph.start {w wr : World} {base B : Nat} {vl vw : Value} {es : List Ent} {held : Int} (h : BookInv wr base B vl vw es held) (hb : Below base w wr) : Ph w base B vl vw es held 0 wr :=
  ⟨h.at_, h.lists, fun i _ hi => by omega, fun e he => (h.ents e he).1.blk, fun e he g hg => by
    obtain ⟨h1, cur, hc⟩ := (h.ents e he).1.block hg
    have := h.notBook (h.ents e he).1 hg
    exact ⟨h1, fun e => this (.inl e), fun e => this (.inr (.inl e))⟩, hb⟩
theorem below_marked {base : Nat} {w wr : World} {g i j : Nat} (h : Below base w wr) (hg : base ≤ g) : Below base w (marked wr g i j) := by
  rw [marked_eq]
  exact (((h.setCell (p := ⟨g, _, none⟩) hg _).setCell (p := ⟨g, _, none⟩) hg _).setCell (p := ⟨g, _, none⟩) hg _).setCell (p := ⟨g, _, none⟩) hg _
theorem Ph.step {w wr : World} {base B : Nat} {vl vw : Value} {es : List Ent} {held : Int} {q g n c j : Nat} (h : Ph w base B vl vw es held q wr) (hP : es.Pairwise fun e f => ∀ g, e.v.ownBlock = some g → f.v.ownBlock ≠ some g) (hq : q < es.length)
    (hv : es[q].v = .slice (some ⟨g, 0, none⟩) n c) (hm : Marks wr es[q].v q j) (hj : j < c) :
    Ph w base B vl vw es held q (marked wr g q j) ∧ Marks (marked wr g q j) es[q].v q (j + 1) := by
  have hmem : es[q] ∈ es := List.getElem_mem hq
  have hg : es[q].v.ownBlock = some g := by rw [hv]; rfl
  obtain ⟨o1, o2, o3⟩ := h.own _ hmem g hg
  have hset : ∀ k, k ≠ g → (marked wr g q j).heap[k]? = wr.heap[k]? := fun k hk => marked_other wr g q j k hk
  refine ⟨⟨h.at_.kept (hset B (fun e => o2 e.symm)), h.lists.kept fun k hk => hset k (by rintro rfl; exact o3 hk), fun i hi hiq m => (h.done i hi hiq m).kept fun k hk => hset k (by
    rintro rfl
    exact (List.pairwise_iff_getElem.1 hP i q hi hq hiq) k hk hg), fun e he => ?_, h.own, below_marked h.below o1⟩, ?_⟩
  · intro g' n' c' hv'
    obtain ⟨cur, h1, h2⟩ := h.blk e he g' n' c' hv'
    by_cases hgg : g' = g
    · subst hgg; exact ⟨_, marked_block h1, by simpa using h2⟩
    · exact ⟨cur, by rw [hset g' hgg]; exact h1, h2⟩
  · rw [hv] at hm ⊢
    exact hm.set hj
theorem Ph.next {w wr : World} {base B : Nat} {vl vw : Value} {es : List Ent} {held : Int} {q : Nat} (h : Ph w base B vl vw es held q wr) (hq : q < es.length) (hm : ∀ m, Marks wr es[q].v q m) : Ph w base B vl vw es held (q + 1) wr :=
  ⟨h.at_, h.lists, fun i hi hiq m => by
    rcases Nat.lt_or_ge i q with hlt | hge
    · exact h.done i hi hlt m
    · have : i = q := by omega
      subst this; exact hm m, h.blk, h.own, h.below⟩
theorem Ph.drewN {w wr : World} {base B : Nat} {vl vw : Value} {es : List Ent} {held : Int} {q : Nat} (h : Ph w base B vl vw es held q wr) (k : Nat) : Ph w base B vl vw es held q (wr.drewN k) :=
  ⟨h.at_, h.lists, h.done, h.blk, h.own, below_drewN h.below k⟩
theorem Marks.over {w w' : World} {v : Value} {i m : Nat} (h : Marks w v i m) (hb : Below w.heap.size w w') : Marks w' v i m := fun g n c hv => by
  obtain ⟨cur, h1, h2, h3⟩ := h g n c hv
  exact ⟨cur, (hb.block g (Array.getElem?_eq_some_iff.1 h1).1).trans h1, h2, h3⟩
theorem Ph.over {w wr w' : World} {base B : Nat} {vl vw : Value} {es : List Ent} {held : Int} {q : Nat} (h : Ph w base B vl vw es held q wr) (hb : Below wr.heap.size wr w') (hbase : base ≤ wr.heap.size) : Ph w base B vl vw es held q w' :=
  ⟨h.at_.kept (hb.block B h.at_.lt), h.lists.kept fun g hg => hb.block g (h.lists.lt g hg).2, fun i hi hq m => (h.done i hi hq m).over hb, fun e he g n c hv => by
    obtain ⟨cur, h1, h2⟩ := h.blk e he g n c hv
    exact ⟨cur, (hb.block g (Array.getElem?_eq_some_iff.1 h1).1).trans h1, h2⟩, h.own, h.below.trans (hb.mono hbase)⟩
theorem Marks.full {w : World} {g n c i : Nat} (h : Marks w (.slice (some ⟨g, 0, none⟩) n c) i c) (m : Nat) : Marks w (.slice (some ⟨g, 0, none⟩) n c) i m := fun g' n' c' hv => by
  obtain ⟨cur, h1, h2, h3⟩ := h g' n' c' hv
  simp only [Value.slice.injEq] at hv
  obtain ⟨-, -, rfl⟩ := hv
  exact ⟨cur, h1, h2, fun j _ hj => h3 j hj hj⟩
theorem Marks.ofNil {w : World} {n c i m : Nat} : Marks w (.slice none n c) i m := fun g' n' c' hv => by simp at hv
end Go.Proofs.Ythlcdaopldnocab
