/- tesserabook.Book of bytes: what it holds. -/
import Derived.Test.YthlcdaopldnocabISrow
import Derived.Test.YthlcdaopldnocabUList
namespace Go.Proofs.Ythlcdaopldnocab
open Go.RowKit
open Go.Joins
/-- What a book keeps of one list: the list, its copy, its bytes. -/
structure Ent where
  v : Value
  u : Value
  l : List It
/-- No block but those of S has turned. -/
structure Only (w w' : World) (S : Nat → Prop) : Prop where
  os : w'.os = w.os
  tape : w'.tape = w.tape
  output : w'.output = w.output
  size : w.heap.size ≤ w'.heap.size
  block : ∀ k, k < w.heap.size → ¬ S k → w'.heap[k]? = w.heap[k]?
theorem Only.refl (w : World) (S : Nat → Prop) : Only w w S := ⟨rfl, rfl, rfl, Nat.le_refl _, fun _ _ _ => rfl⟩
theorem Only.trans {a b c : World} {S S1 : Nat → Prop} (h : Only a b S) (k : Only b c S1) (hs : ∀ i, i < a.heap.size → S1 i → S i) : Only a c S :=
  ⟨k.os.trans h.os, k.tape.trans h.tape, k.output.trans h.output, Nat.le_trans h.size k.size, fun i hi hn =>
    (k.block i (Nat.lt_of_lt_of_le hi h.size) (fun h1 => hn (hs i hi h1))).trans (h.block i hi hn)⟩
theorem Only.wider {w w' : World} {S T : Nat → Prop} (h : Only w w' S) (hs : ∀ i, S i → T i) : Only w w' T := ⟨h.os, h.tape, h.output, h.size, fun k hk hn => h.block k hk (fun h1 => hn (hs k h1))⟩
theorem Only.below {w w' : World} {S : Nat → Prop} {base : Nat} (h : Only w w' S) (hS : ∀ i, S i → base ≤ i) (hb : base ≤ w.heap.size) : Below base w w' :=
  ⟨h.os, h.tape, h.output, h.size, fun k hk => h.block k (by omega) (fun h1 => by have := hS k h1; omega)⟩
theorem Only.ofGrown {w w' : World} {S : Nat → Prop} {row : Option Nat} (h : w.grownBy w' row) (hS : ∀ i, row = some i → S i) : Only w w' S :=
  ⟨h.os, h.tape, h.output, h.size, fun k hk hn => h.block k hk (fun e => hn (hS k e.symm))⟩
theorem Only.ofBelow {w w' : World} {S : Nat → Prop} (h : Below w.heap.size w w') : Only w w' S := ⟨h.os, h.tape, h.output, h.size, fun k hk _ => h.block k hk⟩
theorem Only.alloc (w : World) (S : Nat → Prop) (o : Obj) : Only w (w.alloc o) S := ⟨rfl, rfl, rfl, by simp, fun k hk _ => Below.heap_alloc _ _ _ hk⟩
theorem Only.set {w : World} {S : Nat → Prop} (b o : Nat) (v : Value) (h : S b) : Only w (w.setCell ⟨b, o, none⟩ v) S :=
  ⟨rfl, rfl, rfl, by simp [World.setCell], fun k _ hn => Below.heap_setCell _ _ _ _ (by intro e; exact hn (by rw [e]; exact h))⟩
theorem OwnI.kept {w w' : World} {base : Nat} {v : Value} {l : List It} (h : OwnI 29 w base v l) (hk : ∀ g, v.ownBlock = some g → w'.heap[g]? = w.heap[g]?) : OwnI 29 w' base v l := by
  refine ⟨⟨h.1.1, ?_⟩, h.2⟩
  rcases h.1.2 with h0 | ⟨g, cap, cur, hv, hg, hh, r⟩
  · exact .inl h0
  · refine .inr ⟨g, cap, cur, hv, hg, ?_, r⟩
    rw [hk g (by rw [hv]; rfl)]; exact hh
theorem OwnI.block {w : World} {base : Nat} {v : Value} {l : List It} (h : OwnI 29 w base v l) {g : Nat} (hg : v.ownBlock = some g) : base ≤ g ∧ ∃ cur, w.heap[g]? = some (.cells cur 29 (0, 0)) := by
  rcases h.1.2 with ⟨h0, _⟩ | ⟨g', cap, cur, hv, hb, hh, _⟩
  · rw [h0] at hg; cases hg
  · rw [hv] at hg; cases hg; exact ⟨hb, cur, hh⟩
theorem OwnI.le {w : World} {base base' : Nat} {v : Value} {l : List It} (h : OwnI 29 w base v l) (hb : base' ≤ base) : OwnI 29 w base' v l := ⟨ownsRow_le h.1 hb, h.2⟩
theorem SRow.block {w : World} {base : Nat} {v : Value} {xs : List Value} (h : SRow w base v xs) {g : Nat} (hg : v.ownBlock = some g) : base ≤ g ∧ ∃ cur, w.heap[g]? = some (.cells cur 25 (0, 0)) := by
  rcases h with ⟨h0, _⟩ | ⟨g', off, cap, cur, hv, hb, hh, _⟩
  · rw [h0] at hg; cases hg
  · rw [hv] at hg; cases hg; exact ⟨hb, cur, hh⟩
/-- The book's own cells. -/
def BookAt (w : World) (B : Nat) (vl vw : Value) (held : Int) : Prop := w.heap[B]? = some (.cells #[vl, vw, .int .i64 held, .bool false] 36 (0, 0))
theorem BookAt.lt {w : World} {B : Nat} {vl vw : Value} {held : Int} (h : BookAt w B vl vw held) : B < w.heap.size := (Array.getElem?_eq_some_iff.1 h).1
theorem BookAt.c0 {w : World} {B : Nat} {vl vw : Value} {held : Int} (h : BookAt w B vl vw held) : w.cell? ⟨B, 0, none⟩ = some vl := by rw [cell_of_block h]; rfl
theorem BookAt.c1 {w : World} {B : Nat} {vl vw : Value} {held : Int} (h : BookAt w B vl vw held) : w.cell? ⟨B, 1, none⟩ = some vw := by rw [cell_of_block h]; rfl
theorem BookAt.c2 {w : World} {B : Nat} {vl vw : Value} {held : Int} (h : BookAt w B vl vw held) : w.cell? ⟨B, 2, none⟩ = some (.int .i64 held) := by rw [cell_of_block h]; rfl
theorem BookAt.c3 {w : World} {B : Nat} {vl vw : Value} {held : Int} (h : BookAt w B vl vw held) : w.cell? ⟨B, 3, none⟩ = some (.bool false) := by rw [cell_of_block h]; rfl
theorem BookAt.free {w : World} {B : Nat} {vl vw : Value} {held : Int} (h : BookAt w B vl vw held) (k : Nat) : w.frozen? ⟨B, k, none⟩ = false := unfrozen_of_block h k
theorem BookAt.set0 {w : World} {B : Nat} {vl vw : Value} {held : Int} (h : BookAt w B vl vw held) (v : Value) : BookAt (w.setCell ⟨B, 0, none⟩ v) B v vw held := block_setCell h v
theorem BookAt.set1 {w : World} {B : Nat} {vl vw : Value} {held : Int} (h : BookAt w B vl vw held) (v : Value) : BookAt (w.setCell ⟨B, 1, none⟩ v) B vl v held := block_setCell h v
theorem BookAt.set2 {w : World} {B : Nat} {vl vw : Value} {held : Int} (h : BookAt w B vl vw held) (n : Int) : BookAt (w.setCell ⟨B, 2, none⟩ (.int .i64 n)) B vl vw n := block_setCell h _
theorem BookAt.set3 {w : World} {B : Nat} {vl vw : Value} {held : Int} (h : BookAt w B vl vw held) : BookAt (w.setCell ⟨B, 3, none⟩ (.bool false)) B vl vw held := block_setCell h _
theorem BookAt.kept {w w' : World} {B : Nat} {vl vw : Value} {held : Int} (h : BookAt w B vl vw held) (hk : w'.heap[B]? = w.heap[B]?) : BookAt w' B vl vw held := hk.trans h
/-- Two blocks of unlike types are two. -/
theorem apart_types {w : World} {g g' : Nat} {c c' : Array Value} {t t' : TypeId} {f f' : Nat × Nat} (h : w.heap[g]? = some (.cells c t f)) (h' : w.heap[g']? = some (.cells c' t' f')) (ht : t ≠ t') : g ≠ g' := by
  intro e; subst e; rw [h] at h'; simp at h'; exact ht h'.2.1
/-- WHAT A BOOK HOLDS. -/
structure BookInv (w : World) (base B : Nat) (vl vw : Value) (es : List Ent) (held : Int) : Prop where
  at_ : BookAt w B vl vw held
  lists : SRow w base vl (es.map Ent.v)
  was : SRow w base vw (es.map Ent.u)
  ents : ∀ e ∈ es, OwnI 29 w base e.v e.l ∧ OwnI 29 w base e.u e.l
  two : ∀ g, vl.ownBlock = some g → vw.ownBlock ≠ some g
  pair : es.Pairwise fun e f => ∀ g, e.v.ownBlock = some g → f.v.ownBlock ≠ some g
/-- The blocks that a book writes. -/
def bookS (B : Nat) (vl vw : Value) (k : Nat) : Prop := k = B ∨ vl.ownBlock = some k ∨ vw.ownBlock = some k
/-- The same memory, whatever has been drawn. -/
structure Like (w w' : World) : Prop where
  heap : w'.heap = w.heap
  os : w'.os = w.os
  tape : w'.tape = w.tape
  output : w'.output = w.output
theorem Like.refl (w : World) : Like w w := ⟨rfl, rfl, rfl, rfl⟩
theorem Like.drew {w w' : World} (h : Like w w') : Like w w'.drew := ⟨h.heap, h.os, h.tape, h.output⟩
theorem Like.only {w w' : World} (h : Like w w') (S : Nat → Prop) : Only w w' S := ⟨h.os, h.tape, h.output, by rw [h.heap]; exact Nat.le_refl _, fun k _ _ => by rw [h.heap]⟩
/-- A book on its way, and what of the world it began in has stayed. -/
structure Went (w : World) (B : Nat) (vl vw : Value) (wr : World) (vlr vwr : Value) : Prop where
  only : Only w wr (bookS B vl vw)
  row : ∀ k, k < w.heap.size → bookS B vlr vwr k → bookS B vl vw k
theorem Went.refl (w : World) (B : Nat) (vl vw : Value) : Went w B vl vw w vl vw := ⟨Only.refl _ _, fun _ _ h => h⟩
theorem Went.trans {w w1 w2 : World} {B : Nat} {vl vw vl1 vw1 vl2 vw2 : Value} (h : Went w B vl vw w1 vl1 vw1) (k : Went w1 B vl1 vw1 w2 vl2 vw2) : Went w B vl vw w2 vl2 vw2 :=
  ⟨h.only.trans k.only h.row, fun i hi h2 => h.row i hi (k.row i (Nat.lt_of_lt_of_le hi h.only.size) h2)⟩
/-- A byte list's block is none of the book's. -/
theorem BookInv.notBook {w : World} {base B : Nat} {vl vw : Value} {es : List Ent} {held : Int} (h : BookInv w base B vl vw es held) {v : Value} {l : List It} (hv : OwnI 29 w base v l) {g : Nat} (hg : v.ownBlock = some g) : ¬ bookS B vl vw g := by
  obtain ⟨_, cur, hc⟩ := hv.block hg
  rintro (rfl | h1 | h1)
  · exact apart_types h.at_ hc (by decide) rfl
  · obtain ⟨_, cur', hc'⟩ := h.lists.block h1
    exact apart_types hc hc' (by decide) rfl
  · obtain ⟨_, cur', hc'⟩ := h.was.block h1
    exact apart_types hc hc' (by decide) rfl
/-- What a byte list owns stays while the book alone is written. -/
theorem BookInv.keeps {w wr : World} {base B : Nat} {vl vw : Value} {es : List Ent} {held : Int} (h : BookInv w base B vl vw es held) (ho : Only w wr (bookS B vl vw)) {v : Value} {l : List It} (hv : OwnI 29 w base v l) : OwnI 29 wr base v l :=
  hv.kept fun g hg => by
    obtain ⟨_, cur, hc⟩ := hv.block hg
    exact ho.block g (Array.getElem?_eq_some_iff.1 hc).1 (h.notBook hv hg)
/-- Behind 'lists = append(lists, v)'. -/
theorem book_push_lists {w w1 : World} {base B : Nat} {vl vw vl1 : Value} {es : List Ent} {held : Int} {v : Value} (h : BookInv w base B vl vw es held) (hL1 : SRow w1 base vl1 (es.map Ent.v ++ [v])) (hg : (w.alloc (.cells #[v] 25)).grownBy w1 vl.ownBlock)
    (hb : vl1.ownBlock = vl.ownBlock ∨ ∃ g, vl1.ownBlock = some g ∧ (w.alloc (.cells #[v] 25)).heap.size ≤ g) :
    BookAt w1 B vl vw held ∧ SRow (w1.setCell ⟨B, 0, none⟩ vl1) base vl1 (es.map Ent.v ++ [v]) ∧ SRow (w1.setCell ⟨B, 0, none⟩ vl1) base vw (es.map Ent.u) ∧ Went w B vl vw (w1.setCell ⟨B, 0, none⟩ vl1) vl1 vw ∧ (∀ g, vl1.ownBlock = some g → vw.ownBlock ≠ some g) := by
  have hBlt := h.at_.lt
  have hone : Only w w1 (bookS B vl vw) := (Only.alloc w _ _).trans (Only.ofGrown (S := bookS B vl vw) hg (fun i hi => .inr (.inl hi))) (fun _ _ hs => hs)
  have hBl : vl.ownBlock ≠ some B := by
    intro e; obtain ⟨_, cur, hh⟩ := h.lists.block e
    exact apart_types h.at_ hh (by decide) rfl
  have hBw : vw.ownBlock ≠ some B := by
    intro e; obtain ⟨_, cur, hh⟩ := h.was.block e
    exact apart_types h.at_ hh (by decide) rfl
  have hA1 : BookAt w1 B vl vw held := h.at_.kept (by
    rw [hg.block B (by simp; omega) (fun e => hBl e.symm)]
    exact heap_alloc_old w _ hBlt)
  have hBl1 : vl1.ownBlock ≠ some B := by
    intro e; obtain ⟨_, cur, hh⟩ := hL1.block e
    exact apart_types hA1 hh (by decide) rfl
  have hset : ∀ k, k ≠ B → (w1.setCell ⟨B, 0, none⟩ vl1).heap[k]? = w1.heap[k]? := fun k hk => Below.heap_setCell _ _ _ _ hk
  have htwo : ∀ g, vl1.ownBlock = some g → vw.ownBlock ≠ some g := by
    intro g hg1 hg2
    rcases hb with hb | ⟨g', hb, hle⟩
    · exact h.two g (hb ▸ hg1) hg2
    · rw [hb] at hg1; cases hg1
      have := (h.was.lt g hg2).2
      simp at hle; omega
  refine ⟨hA1, hL1.kept fun g hg => hset g (by rintro rfl; exact hBl1 hg), h.was.kept fun g hgw => ?_, ⟨hone.trans (Only.set (S := bookS B vl vw) B 0 vl1 (.inl rfl)) (fun _ _ hs => hs), ?_⟩, htwo⟩
  · rw [hset g (by rintro rfl; exact hBw hgw), hg.block g (by have := (h.was.lt g hgw).2; simp; omega) (fun e => h.two g e.symm hgw)]
    exact heap_alloc_old w _ (h.was.lt g hgw).2
  · rintro k hk (rfl | h1 | h1)
    · exact .inl rfl
    · rcases hb with hb | ⟨g', hb, hle⟩
      · exact .inr (.inl (hb ▸ h1))
      · rw [hb] at h1; cases h1; simp at hle; omega
    · exact .inr (.inr h1)
/-- Behind 'was = append(was, append(nil, v...))': u the copy, made in w3; the row w5; the store. -/
theorem book_push_was {w2 w3 w5 : World} {base B : Nat} {vl1 vw vw1 : Value} {es : List Ent} {held : Int} {v u : Value} {l : List It} (hA : BookAt w2 B vl1 vw held) (hL : SRow w2 base vl1 (es.map Ent.v ++ [v])) (hW : SRow w2 base vw (es.map Ent.u))
    (hE : ∀ e ∈ es, OwnI 29 w2 base e.v e.l ∧ OwnI 29 w2 base e.u e.l) (hv : OwnI 29 w2 base v l) (htwo : ∀ g, vl1.ownBlock = some g → vw.ownBlock ≠ some g) (hP : es.Pairwise fun e f => ∀ g, e.v.ownBlock = some g → f.v.ownBlock ≠ some g)
    (hnew : ∀ e ∈ es, ∀ g, e.v.ownBlock = some g → v.ownBlock ≠ some g) (h3 : Only w2 w3 fun _ => False) (hu : OwnI 29 w3 w2.heap.size u l) (hbase : base ≤ w2.heap.size) (hW5 : SRow w5 base vw1 (es.map Ent.u ++ [u])) (h5 : Only w3 w5 fun k => vw.ownBlock = some k)
    (hb : vw1.ownBlock = vw.ownBlock ∨ ∃ g, vw1.ownBlock = some g ∧ w3.heap.size ≤ g) :
    BookAt w5 B vl1 vw held ∧ BookInv (w5.setCell ⟨B, 1, none⟩ vw1) base B vl1 vw1 (es ++ [⟨v, u, l⟩]) held ∧ Went w2 B vl1 vw (w5.setCell ⟨B, 1, none⟩ vw1) vl1 vw1 := by
  have hBlt := hA.lt
  have hBw : vw.ownBlock ≠ some B := by
    intro e; obtain ⟨_, cur, hh⟩ := hW.block e
    exact apart_types hA hh (by decide) rfl
  have hBl : vl1.ownBlock ≠ some B := by
    intro e; obtain ⟨_, cur, hh⟩ := hL.block e
    exact apart_types hA hh (by decide) rfl
  -- what lies in w2 and is no row of copies lies in w5
  have hkeep : ∀ k, k < w2.heap.size → vw.ownBlock ≠ some k → w5.heap[k]? = w2.heap[k]? := fun k hk hn =>
    (h5.block k (Nat.lt_of_lt_of_le hk h3.size) hn).trans (h3.block k hk (fun h => h))
  have hA5 : BookAt w5 B vl1 vw held := hA.kept (hkeep B hBlt hBw)
  have hBw1 : vw1.ownBlock ≠ some B := by
    intro e; obtain ⟨_, cur, hh⟩ := hW5.block e
    exact apart_types hA5 hh (by decide) rfl
  have hset : ∀ k, k ≠ B → (w5.setCell ⟨B, 1, none⟩ vw1).heap[k]? = w5.heap[k]? := fun k hk => Below.heap_setCell _ _ _ _ hk
  have hbytes : ∀ {x : Value} {m : List It}, OwnI 29 w2 base x m → OwnI 29 (w5.setCell ⟨B, 1, none⟩ vw1) base x m := fun {x m} hx => hx.kept fun g hg => by
    obtain ⟨_, cur, hc⟩ := hx.block hg
    have hgB : g ≠ B := fun e => apart_types hA hc (by decide) e.symm
    rw [hset g hgB]
    exact hkeep g (Array.getElem?_eq_some_iff.1 hc).1 (fun e => by
      obtain ⟨_, cur', hc'⟩ := hW.block e
      exact apart_types hc hc' (by decide) rfl)
  have hu7 : OwnI 29 (w5.setCell ⟨B, 1, none⟩ vw1) base u l := by
    have hu' : OwnI 29 w3 base u l := hu.le hbase
    refine hu'.kept fun g hg => ?_
    obtain ⟨_, cur, hc⟩ := hu'.block hg
    have hge := (hu.block hg).1
    have hgB : g ≠ B := by omega
    rw [hset g hgB]
    refine h5.block g (Array.getElem?_eq_some_iff.1 hc).1 (fun e => ?_)
    have := (hW.lt g e).2
    omega
  have htwo' : ∀ g, vl1.ownBlock = some g → vw1.ownBlock ≠ some g := by
    intro g hg1 hg2
    rcases hb with hb | ⟨g', hb, hle⟩
    · exact htwo g hg1 (hb ▸ hg2)
    · rw [hb] at hg2; cases hg2
      have := (hL.lt g hg1).2
      have := h3.size
      omega
  refine ⟨hA5, ⟨hA5.set1 vw1, ?_, ?_, ?_, htwo', ?_⟩, ⟨?_, ?_⟩⟩
  · rw [List.map_append]
    exact hL.kept fun g hg => by
      rw [hset g (by rintro rfl; exact hBl hg)]
      exact hkeep g (hL.lt g hg).2 (htwo g hg)
  · rw [List.map_append]
    exact hW5.kept fun g hg => hset g (by rintro rfl; exact hBw1 hg)
  · intro e he
    rcases List.mem_append.1 he with he | he
    · exact ⟨hbytes (hE e he).1, hbytes (hE e he).2⟩
    · simp at he; subst he; exact ⟨hbytes hv, hu7⟩
  · rw [List.pairwise_append]
    refine ⟨hP, by simp, fun e he f hf => ?_⟩
    simp at hf; subst hf; exact hnew e he
  · refine (((h3.wider (T := bookS B vl1 vw) (fun _ h => h.elim)).trans h5 (S1 := fun k => vw.ownBlock = some k) ?_).trans (Only.set (S := bookS B vl1 vw) B 1 vw1 (.inl rfl)) (fun _ _ hs => hs))
    intro i _ h1; exact .inr (.inr h1)
  · rintro k hk (rfl | h1 | h1)
    · exact .inl rfl
    · exact .inr (.inl h1)
    · rcases hb with hb | ⟨g', hb, hle⟩
      · exact .inr (.inr (hb ▸ h1))
      · rw [hb] at h1; cases h1
        have := h3.size
        omega
/-- The book's own cells alone have turned. -/
theorem BookInv.move {w w' : World} {base B : Nat} {vl vw : Value} {es : List Ent} {held held' : Int} (h : BookInv w base B vl vw es held) (ho : Only w w' fun k => k = B) (hA : BookAt w' B vl vw held') : BookInv w' base B vl vw es held' := by
  have hbl : vl.ownBlock ≠ some B := by
    intro e; obtain ⟨_, cur, hh⟩ := h.lists.block e
    exact apart_types h.at_ hh (by decide) rfl
  have hbw : vw.ownBlock ≠ some B := by
    intro e; obtain ⟨_, cur, hh⟩ := h.was.block e
    exact apart_types h.at_ hh (by decide) rfl
  have hbytes : ∀ {x : Value} {m : List It}, OwnI 29 w base x m → OwnI 29 w' base x m := fun {x m} hx => hx.kept fun g hg => by
    obtain ⟨_, cur, hc⟩ := hx.block hg
    exact ho.block g (Array.getElem?_eq_some_iff.1 hc).1 (fun e => apart_types h.at_ hc (by decide) e.symm)
  exact ⟨hA, h.lists.kept fun g hg => ho.block g (h.lists.lt g hg).2 (by rintro rfl; exact hbl hg), h.was.kept fun g hg => ho.block g (h.was.lt g hg).2 (by rintro rfl; exact hbw hg),
    fun e he => ⟨hbytes (h.ents e he).1, hbytes (h.ents e he).2⟩, h.two, h.pair⟩
/-- The front one is let go. -/
theorem BookInv.cut {w : World} {base B g o n c g' o' n' c' : Nat} {e : Ent} {es : List Ent} {held : Int} (h : BookInv w base B (.slice (some ⟨g, o, none⟩) n c) (.slice (some ⟨g', o', none⟩) n' c') (e :: es) held) (hn : n = es.length + 1) (hn' : n' = es.length + 1) {w' : World}
    (ho : Only w w' fun k => k = B) (hA : BookAt w' B (.slice (some ⟨g, o + 1, none⟩) es.length (c - 1)) (.slice (some ⟨g', o' + 1, none⟩) es.length (c' - 1)) held) :
    BookInv w' base B (.slice (some ⟨g, o + 1, none⟩) es.length (c - 1)) (.slice (some ⟨g', o' + 1, none⟩) es.length (c' - 1)) es held := by
  have hbl : g ≠ B := by
    rintro rfl; obtain ⟨_, cur, hh⟩ := h.lists.block rfl
    exact apart_types h.at_ hh (by decide) rfl
  have hbw : g' ≠ B := by
    rintro rfl; obtain ⟨_, cur, hh⟩ := h.was.block rfl
    exact apart_types h.at_ hh (by decide) rfl
  have hbytes : ∀ {x : Value} {m : List It}, OwnI 29 w base x m → OwnI 29 w' base x m := fun {x m} hx => hx.kept fun g hg => by
    obtain ⟨_, cur, hc⟩ := hx.block hg
    exact ho.block g (Array.getElem?_eq_some_iff.1 hc).1 (fun e => apart_types h.at_ hc (by decide) e.symm)
  have e1 : (es.map Ent.v).length = es.length := List.length_map ..
  have e2 : (es.map Ent.u).length = es.length := List.length_map ..
  have hL := SRow.tail h.lists (by rw [e1]; exact hn)
  have hW := SRow.tail h.was (by rw [e2]; exact hn')
  rw [e1] at hL
  rw [e2] at hW
  refine ⟨hA, hL.kept fun k hk => ho.block k (hL.lt k hk).2 (by rintro rfl; cases hk; exact hbl rfl), hW.kept fun k hk => ho.block k (hW.lt k hk).2 (by rintro rfl; cases hk; exact hbw rfl),
    fun e' he => ⟨hbytes (h.ents e' (List.mem_cons_of_mem _ he)).1, hbytes (h.ents e' (List.mem_cons_of_mem _ he)).2⟩, h.two, (List.pairwise_cons.1 h.pair).2⟩
theorem Went.move {w w1 w2 : World} {B : Nat} {vl vw vl1 vw1 vl2 vw2 : Value} (h : Went w B vl vw w1 vl1 vw1) (ho : Only w1 w2 fun k => k = B) (hl : vl2.ownBlock = vl1.ownBlock) (hw : vw2.ownBlock = vw1.ownBlock) : Went w B vl vw w2 vl2 vw2 :=
  h.trans ⟨ho.wider (fun _ hk => .inl hk), fun k _ hk => by
    rcases hk with hk | hk | hk
    · exact .inl hk
    · exact .inr (.inl (hl ▸ hk))
    · exact .inr (.inr (hw ▸ hk))⟩
end Go.Proofs.Ythlcdaopldnocab
