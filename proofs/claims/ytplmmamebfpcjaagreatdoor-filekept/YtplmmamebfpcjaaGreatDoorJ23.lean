import Derived.Test.YtplmmamebfpcjaaGreatDoorJ0
import Derived.Deep.AppendSrc
import Derived.WalkSpells
import Derived.WalkLawsBesides
import Derived.Test.YtplmmamebfpcjaaGreatDoorJ19
import Derived.Deep.QuietTactic
import Derived.BigQuiet
import Derived.Deep.RegionLaw
import Derived.Deep.DeepCutAuto
import Derived.Deep.LoopGhost
section
/- A row of slices that a call itself made, which may begin behind its block's head: appended to, cut at its front. -/
namespace Go.Proofs.YtplmmamebfpcjaaGreatDoor.Oc
open Go.RowKit
open Go.Joins
def SRow (w : World) (base : Nat) (v : Value) (xs : List Value) : Prop :=
  (v = .slice none 0 0 ∧ xs = []) ∨ ∃ g off cap cur, v = .slice (some ⟨g, off, none⟩) xs.length cap ∧ base ≤ g ∧ w.heap[g]? = some (.cells cur 32 (0, 0)) ∧ off + cap ≤ cur.size ∧ cap ≤ maxLen ∧ xs.length ≤ cap ∧
    ∀ j, j < xs.length → cur[off + j]? = xs[j]?
theorem SRow.nil (w : World) (base : Nat) : SRow w base (.slice none 0 0) [] := .inl ⟨rfl, rfl⟩
/-- Whatever leaves its block leaves it. -/
theorem SRow.kept {w w' : World} {base : Nat} {v : Value} {xs : List Value} (h : SRow w base v xs) (hk : ∀ g, v.ownBlock = some g → w'.heap[g]? = w.heap[g]?) : SRow w' base v xs := by
  rcases h with h | ⟨g, off, cap, cur, rfl, hb, hh, r⟩
  · exact .inl h
  · exact .inr ⟨g, off, cap, cur, rfl, hb, by rw [hk g rfl]; exact hh, r⟩
theorem SRow.lt {w : World} {base : Nat} {v : Value} {xs : List Value} (h : SRow w base v xs) : ∀ g, v.ownBlock = some g → base ≤ g ∧ g < w.heap.size := by
  intro g hg
  rcases h with ⟨rfl, _⟩ | ⟨g', off, cap, cur, rfl, hb, hh, _⟩
  · cases hg
  · cases hg; exact ⟨hb, (Array.getElem?_eq_some_iff.1 hh).1⟩
theorem SRow.form {w : World} {base : Nat} {v : Value} {xs : List Value} (h : SRow w base v xs) (h0 : 0 < xs.length) :
    ∃ g off cap, v = .slice (some ⟨g, off, none⟩) xs.length cap ∧ base ≤ g ∧ g < w.heap.size ∧ xs.length ≤ cap ∧ cap ≤ maxLen ∧ ∀ j (hj : j < xs.length), w.cell? ⟨g, off + j, none⟩ = some xs[j] := by
  rcases h with ⟨_, rfl⟩ | ⟨g, off, cap, cur, hv, hb, hh, hs, hm, hl, hc⟩
  · simp at h0
  · refine ⟨g, off, cap, hv, hb, (Array.getElem?_eq_some_iff.1 hh).1, hl, hm, fun j hj => ?_⟩
    rw [cell_of_block hh, hc j hj, List.getElem?_eq_getElem hj]
/-- The front one is cut off. -/
theorem SRow.tail {w : World} {base g off n cap : Nat} {x : Value} {xs : List Value} (h : SRow w base (.slice (some ⟨g, off, none⟩) n cap) (x :: xs)) (_hn : n = xs.length + 1) : SRow w base (.slice (some ⟨g, off + 1, none⟩) xs.length (cap - 1)) xs := by
  rcases h with ⟨h, _⟩ | ⟨g', off', cap', cur, hv, hb, hh, hs, hm, hl, hc⟩
  · simp at h
  · simp only [Value.slice.injEq, Option.some.injEq, Addr.mk.injEq, and_true] at hv
    obtain ⟨⟨rfl, rfl⟩, _, rfl⟩ := hv
    simp only [List.length_cons] at hl hc
    refine .inr ⟨g, off + 1, cap - 1, cur, rfl, hb, hh, by omega, by omega, by omega, fun j hj => ?_⟩
    have := hc (j + 1) (by omega)
    rw [show off + 1 + j = off + (j + 1) from by omega, this]
    simp
theorem infoS : (Tryz.prog.info? 32).map (fun i => (i.zero, i.size, i.bytes)) = some (some (.slice none 0 0), 1, 24) := by kernel_rfl
theorem ownsRow_srow {w : World} {base : Nat} {v : Value} {xs : List Value} (h : w.ownsRow base 32 1 v xs.length xs) : SRow w base v xs := by
  rcases h.2 with ⟨hv, hn⟩ | ⟨g, cap, cur, hv, hb, hh, hn, hm, hs, ht⟩
  · exact .inl ⟨hv, List.eq_nil_of_length_eq_zero hn⟩
  · refine .inr ⟨g, 0, cap, cur, hv, hb, hh, by omega, hm, hn, fun j hj => ?_⟩
    have e : xs[j]? = (cur.toList.take (xs.length * 1))[j]? := by rw [ht]
    rw [e, List.getElem?_take, if_pos (by omega), Nat.zero_add]
    simp
/-- One more behind. -/
theorem run_push (W : World) (base : Nat) (v : Value) (xs : List Value) (X : Value) (h : Nat) (c : Nat) (hX : X.oneCell' = true) (hrow : SRow W base v xs) (hx : W.cell? ⟨h, 0, none⟩ = some X) (hb : base ≤ W.heap.size) (hsz : xs.length ≤ 1000000) :
    ∃ v' W', (Builtin.append_ #[56, 56] 56 #[v, .slice (some ⟨h, 0, none⟩) 1 c]).run Tryz.prog W = .ok v' W' ∧ SRow W' base v' (xs ++ [X]) ∧ W.grownBy W' v.ownBlock ∧
      (v'.ownBlock = v.ownBlock ∨ ∃ g, v'.ownBlock = some g ∧ W.heap.size ≤ g) := by
  obtain ⟨i0, hi, hz0, hz1, hz2⟩ := info_parts infoS
  have hnews : ∀ j u, [X][j]? = some u → W.cell? ((⟨h, 0, none⟩ : Addr).add j) = some u := by
    intro j u hu
    match j, hu with
    | 0, hu => simp at hu; subst hu; simpa [Addr.add] using hx
  have h1 : ∀ u ∈ [X], u.oneCell' = true := by intro u hu; simp at hu; subst hu; exact hX
  have hsrc := Src.ofSlice (P := Tryz.prog) (w := W) (size := 1) (tx := 56) (e' := 32) Tryz.underlying56 ⟨h, 0, none⟩ 1 c [X] rfl hnews h1
  rcases hrow with ⟨rfl, rfl⟩ | ⟨g, off, cap, cur, rfl, hbg, hh, hs, hm, hl, hc⟩
  · obtain ⟨v', w', r1, r2, r3, r4⟩ := run_append_own (P := Tryz.prog) W W.heap.size 56 56 32 i0 (.slice none 0 0) 1 24 Tryz.underlying56 hi hz0 hz1 hz2 rfl (by decide) (.slice none 0 0) 0 [] (World.ownsRow_nil W _ _ _) ⟨h, 0, none⟩ 1 c [X] rfl hnews h1 (by decide) (by decide) (Nat.le_refl _)
    have r5 : SRow w' W.heap.size v' [X] := ownsRow_srow r2
    obtain ⟨g, off, cap, hv, hg, _⟩ := r5.form (by simp)
    refine ⟨v', w', r1, ?_, r3, .inr ⟨g, by rw [hv]; rfl, hg⟩⟩
    rcases r5 with h | ⟨g, off, cap, cur, e1, e2, e3⟩
    · exact .inl h
    · exact .inr ⟨g, off, cap, cur, e1, Nat.le_trans hb e2, e3⟩
  · by_cases hroom : xs.length + 1 ≤ cap
    · have hcellS : (W.cell? ⟨g, off + xs.length, none⟩).isSome = true := by
        rw [cell_of_block hh, Array.getElem?_eq_getElem (by omega)]; rfl
      have hr := run_append_room_src (P := Tryz.prog) W 56 56 56 32 i0 Tryz.underlying56 hi g off xs.length cap _ 1 [X] (by rw [hz1]; exact hsrc) hroom (fun j hj => by
        have : j = 0 := by simpa using hj
        subst this; rw [hz1]; simpa using hcellS) (fun j hj => by rw [hz1]; exact unfrozen_of_block hh _)
      rw [hz1, Nat.mul_one] at hr
      have e : W.setCells g (off + xs.length) [X] = W.setCell ⟨g, off + xs.length, none⟩ X := rfl
      rw [e] at hr
      have hblk := block_setCell hh (i := off + xs.length) X
      refine ⟨_, _, hr, ?_, ⟨rfl, rfl, rfl, by simp [World.setCell], fun k hk hne => Below.heap_setCell _ _ _ _ (by intro e; apply hne; rw [e]; rfl)⟩, .inl rfl⟩
      refine .inr ⟨g, off, cap, _, by simp, hbg, hblk, by simpa using hs, hm, by simp; omega, fun j hj => ?_⟩
      simp only [List.length_append, List.length_cons, List.length_nil] at hj
      rw [Array.getElem?_setIfInBounds]
      by_cases hjl : j = xs.length
      · subst hjl; rw [if_pos rfl, if_pos (by omega)]; simp
      · rw [if_neg (by omega), hc j (by omega), List.getElem?_append_left (by omega)]
    · have holds : ∀ j u, xs[j]? = some u → W.cell? ((⟨g, off, none⟩ : Addr).add j) = some u := by
        intro j u hu
        have hj : j < xs.length := (List.getElem?_eq_some_iff.1 hu).1
        rw [Go.WideShapes.add_plain, cell_of_block hh, hc j hj]; exact hu
      have hcap : cap = xs.length := by omega
      have hr := run_append_grow_src (P := Tryz.prog) W 56 56 56 32 i0 (.slice none 0 0) Tryz.underlying56 hi hz0 (some ⟨g, off, none⟩) xs.length cap xs
        (by rw [hz1]; exact run_firstCells_some (P := Tryz.prog) W.drew 1 xs.length ⟨g, off, none⟩ xs.length cap xs (by omega) (by simpa using holds)) _ 1 [X] (by rw [hz1]; exact hsrc) (by omega) (by omega)
        (by rw [hz2]; exact growslice_fits (by omega) (by omega))
      refine ⟨_, _, hr, ?_, ⟨rfl, rfl, rfl, by simp, fun k hk _ => heap_alloc_old W.drew _ hk⟩, .inr ⟨_, rfl, Nat.le_refl _⟩⟩
      have hge := grownCap_ge W (xs.length + 1) cap 32
      have hcm : grownCap W (xs.length + 1) cap 32 ≤ maxLen := grownCap_le_maxLen W _ _ _ (by simp [maxLen]; omega)
      refine .inr ⟨W.heap.size, 0, _, _, by simp, hb, heap_alloc_new W.drew _, ?_, hcm, by simpa using hge, fun j hj => ?_⟩
      · simp [Builtin.zeroCells, Value.cells]
        omega
      · rw [Nat.zero_add, Array.getElem?_append_left (by simpa using hj)]
        simp
end Go.Proofs.YtplmmamebfpcjaaGreatDoor.Oc
end
section
/- tesserabook.Book of bytes: what it holds. -/
namespace Go.Proofs.YtplmmamebfpcjaaGreatDoor.Oc
open Go.RowKit
open Go.Joins
/-- What a book keeps of one list: the list, its copy, its bytes. -/
structure Ent where
  v : Value
  u : Value
  l : List UInt8
/-- No block but those of S has turned. -/
structure Only (w w' : World) (S : Nat → Prop) : Prop where
  os : w'.os = w.os
  tape : w'.tape = w.tape
  output : w'.output = w.output
  size : w.heap.size ≤ w'.heap.size
  block : ∀ k, k < w.heap.size → ¬ S k → w'.heap[k]? = w.heap[k]?
theorem Only.refl (w : World) (S : Nat → Prop) : Only w w S := ⟨rfl, rfl, rfl, Nat.le_refl _, fun _ _ _ => rfl⟩
theorem Only.trans {a b c : World} {S S1 : Nat → Prop} (h : Only a b S) (k : Only b c S1) (hs : ∀ i, i < a.heap.size → S1 i → S i) : Only a c S :=
  ⟨k.os.trans h.os, k.tape.trans h.tape, k.output.trans h.output, Nat.le_trans h.size k.size, fun i hi hn =>
    (k.block i (Nat.lt_of_lt_of_le hi h.size) (fun h1 => hn (hs i hi h1))).trans (h.block i hi hn)⟩
theorem Only.wider {w w' : World} {S T : Nat → Prop} (h : Only w w' S) (hs : ∀ i, S i → T i) : Only w w' T := ⟨h.os, h.tape, h.output, h.size, fun k hk hn => h.block k hk (fun h1 => hn (hs k h1))⟩
theorem Only.below {w w' : World} {S : Nat → Prop} {base : Nat} (h : Only w w' S) (hS : ∀ i, S i → base ≤ i) (hb : base ≤ w.heap.size) : Below base w w' :=
  ⟨h.os, h.tape, h.output, h.size, fun k hk => h.block k (by omega) (fun h1 => by have := hS k h1; omega)⟩
theorem Only.ofGrown {w w' : World} {S : Nat → Prop} {row : Option Nat} (h : w.grownBy w' row) (hS : ∀ i, row = some i → S i) : Only w w' S :=
  ⟨h.os, h.tape, h.output, h.size, fun k hk hn => h.block k hk (fun e => hn (hS k e.symm))⟩
theorem Only.ofBelow {w w' : World} {S : Nat → Prop} (h : Below w.heap.size w w') : Only w w' S := ⟨h.os, h.tape, h.output, h.size, fun k hk _ => h.block k hk⟩
theorem Only.alloc (w : World) (S : Nat → Prop) (o : Obj) : Only w (w.alloc o) S := ⟨rfl, rfl, rfl, by simp, fun k hk _ => Below.heap_alloc _ _ _ hk⟩
theorem Only.set {w : World} {S : Nat → Prop} (b o : Nat) (v : Value) (h : S b) : Only w (w.setCell ⟨b, o, none⟩ v) S :=
  ⟨rfl, rfl, rfl, by simp [World.setCell], fun k _ hn => Below.heap_setCell _ _ _ _ (by intro e; exact hn (by rw [e]; exact h))⟩
theorem OwnS.kept {w w' : World} {base : Nat} {v : Value} {l : List UInt8} (h : OwnS w base v l) (hk : ∀ g, v.ownBlock = some g → w'.heap[g]? = w.heap[g]?) : OwnS w' base v l := by
  refine ⟨h.1, ?_⟩
  rcases h.2 with h0 | ⟨g, cap, cur, hv, hg, hh, r⟩
  · exact .inl h0
  · refine .inr ⟨g, cap, cur, hv, hg, ?_, r⟩
    rw [hk g (by rw [hv]; rfl)]; exact hh
theorem OwnS.block {w : World} {base : Nat} {v : Value} {l : List UInt8} (h : OwnS w base v l) {g : Nat} (hg : v.ownBlock = some g) : base ≤ g ∧ ∃ cur, w.heap[g]? = some (.cells cur 5 (0, 0)) := by
  rcases h.2 with ⟨h0, _⟩ | ⟨g', cap, cur, hv, hb, hh, _⟩
  · rw [h0] at hg; cases hg
  · rw [hv] at hg; cases hg; exact ⟨hb, cur, hh⟩
theorem SRow.block {w : World} {base : Nat} {v : Value} {xs : List Value} (h : SRow w base v xs) {g : Nat} (hg : v.ownBlock = some g) : base ≤ g ∧ ∃ cur, w.heap[g]? = some (.cells cur 32 (0, 0)) := by
  rcases h with ⟨h0, _⟩ | ⟨g', off, cap, cur, hv, hb, hh, _⟩
  · rw [h0] at hg; cases hg
  · rw [hv] at hg; cases hg; exact ⟨hb, cur, hh⟩
/-- The book's own cells. -/
def BookAt (w : World) (B : Nat) (vl vw : Value) (held : Int) : Prop := w.heap[B]? = some (.cells #[vl, vw, .int .i64 held, .bool false] 58 (0, 0))
theorem BookAt.lt {w : World} {B : Nat} {vl vw : Value} {held : Int} (h : BookAt w B vl vw held) : B < w.heap.size := (Array.getElem?_eq_some_iff.1 h).1
theorem BookAt.c0 {w : World} {B : Nat} {vl vw : Value} {held : Int} (h : BookAt w B vl vw held) : w.cell? ⟨B, 0, none⟩ = some vl := by rw [cell_of_block h]; rfl
theorem BookAt.c1 {w : World} {B : Nat} {vl vw : Value} {held : Int} (h : BookAt w B vl vw held) : w.cell? ⟨B, 1, none⟩ = some vw := by rw [cell_of_block h]; rfl
theorem BookAt.c2 {w : World} {B : Nat} {vl vw : Value} {held : Int} (h : BookAt w B vl vw held) : w.cell? ⟨B, 2, none⟩ = some (.int .i64 held) := by rw [cell_of_block h]; rfl
theorem BookAt.c3 {w : World} {B : Nat} {vl vw : Value} {held : Int} (h : BookAt w B vl vw held) : w.cell? ⟨B, 3, none⟩ = some (.bool false) := by rw [cell_of_block h]; rfl
theorem BookAt.free {w : World} {B : Nat} {vl vw : Value} {held : Int} (h : BookAt w B vl vw held) (k : Nat) : w.frozen? ⟨B, k, none⟩ = false := unfrozen_of_block h k
theorem BookAt.set0 {w : World} {B : Nat} {vl vw : Value} {held : Int} (h : BookAt w B vl vw held) (v : Value) : BookAt (w.setCell ⟨B, 0, none⟩ v) B v vw held := block_setCell h v
theorem BookAt.set1 {w : World} {B : Nat} {vl vw : Value} {held : Int} (h : BookAt w B vl vw held) (v : Value) : BookAt (w.setCell ⟨B, 1, none⟩ v) B vl v held := block_setCell h v
theorem BookAt.set2 {w : World} {B : Nat} {vl vw : Value} {held : Int} (h : BookAt w B vl vw held) (n : Int) : BookAt (w.setCell ⟨B, 2, none⟩ (.int .i64 n)) B vl vw n := block_setCell h _
theorem BookAt.set3 {w : World} {B : Nat} {vl vw : Value} {held : Int} (h : BookAt w B vl vw held) : BookAt (w.setCell ⟨B, 3, none⟩ (.bool false)) B vl vw held := block_setCell h _
theorem BookAt.kept {w w' : World} {B : Nat} {vl vw : Value} {held : Int} (h : BookAt w B vl vw held) (hk : w'.heap[B]? = w.heap[B]?) : BookAt w' B vl vw held := hk.trans h
/-- Two blocks of unlike types are two. -/
theorem apart_types {w : World} {g g' : Nat} {c c' : Array Value} {t t' : TypeId} {f f' : Nat × Nat} (h : w.heap[g]? = some (.cells c t f)) (h' : w.heap[g']? = some (.cells c' t' f')) (ht : t ≠ t') : g ≠ g' := by
  intro e; subst e; rw [h] at h'; simp at h'; exact ht h'.2.1
/-- WHAT A BOOK HOLDS. -/
structure BookInv (w : World) (base B : Nat) (vl vw : Value) (es : List Ent) (held : Int) : Prop where
  at_ : BookAt w B vl vw held
  lists : SRow w base vl (es.map Ent.v)
  was : SRow w base vw (es.map Ent.u)
  ents : ∀ e ∈ es, OwnS w base e.v e.l ∧ OwnS w base e.u e.l
  two : ∀ g, vl.ownBlock = some g → vw.ownBlock ≠ some g
  pair : es.Pairwise fun e f => ∀ g, e.v.ownBlock = some g → f.v.ownBlock ≠ some g
/-- The blocks that a book writes. -/
def bookS (B : Nat) (vl vw : Value) (k : Nat) : Prop := k = B ∨ vl.ownBlock = some k ∨ vw.ownBlock = some k
/-- The same memory, whatever has been drawn. -/
structure Like (w w' : World) : Prop where
  heap : w'.heap = w.heap
  os : w'.os = w.os
  tape : w'.tape = w.tape
  output : w'.output = w.output
theorem Like.refl (w : World) : Like w w := ⟨rfl, rfl, rfl, rfl⟩
theorem Like.drew {w w' : World} (h : Like w w') : Like w w'.drew := ⟨h.heap, h.os, h.tape, h.output⟩
theorem Like.only {w w' : World} (h : Like w w') (S : Nat → Prop) : Only w w' S := ⟨h.os, h.tape, h.output, by rw [h.heap]; exact Nat.le_refl _, fun k _ _ => by rw [h.heap]⟩
/-- A book on its way, and what of the world it began in has stayed. -/
structure Went (w : World) (B : Nat) (vl vw : Value) (wr : World) (vlr vwr : Value) : Prop where
  only : Only w wr (bookS B vl vw)
  row : ∀ k, k < w.heap.size → bookS B vlr vwr k → bookS B vl vw k
theorem Went.refl (w : World) (B : Nat) (vl vw : Value) : Went w B vl vw w vl vw := ⟨Only.refl _ _, fun _ _ h => h⟩
theorem Went.trans {w w1 w2 : World} {B : Nat} {vl vw vl1 vw1 vl2 vw2 : Value} (h : Went w B vl vw w1 vl1 vw1) (k : Went w1 B vl1 vw1 w2 vl2 vw2) : Went w B vl vw w2 vl2 vw2 :=
  ⟨h.only.trans k.only h.row, fun i hi h2 => h.row i hi (k.row i (Nat.lt_of_lt_of_le hi h.only.size) h2)⟩
/-- A byte list's block is none of the book's. -/
theorem BookInv.notBook {w : World} {base B : Nat} {vl vw : Value} {es : List Ent} {held : Int} (h : BookInv w base B vl vw es held) {v : Value} {l : List UInt8} (hv : OwnS w base v l) {g : Nat} (hg : v.ownBlock = some g) : ¬ bookS B vl vw g := by
  obtain ⟨_, cur, hc⟩ := hv.block hg
  rintro (rfl | h1 | h1)
  · exact apart_types h.at_ hc (by decide) rfl
  · obtain ⟨_, cur', hc'⟩ := h.lists.block h1
    exact apart_types hc hc' (by decide) rfl
  · obtain ⟨_, cur', hc'⟩ := h.was.block h1
    exact apart_types hc hc' (by decide) rfl
/-- What a byte list owns stays while the book alone is written. -/
theorem BookInv.keeps {w wr : World} {base B : Nat} {vl vw : Value} {es : List Ent} {held : Int} (h : BookInv w base B vl vw es held) (ho : Only w wr (bookS B vl vw)) {v : Value} {l : List UInt8} (hv : OwnS w base v l) : OwnS wr base v l :=
  hv.kept fun g hg => by
    obtain ⟨_, cur, hc⟩ := hv.block hg
    exact ho.block g (Array.getElem?_eq_some_iff.1 hc).1 (h.notBook hv hg)
/-- Behind 'lists = append(lists, v)'. -/
theorem book_push_lists {w w1 : World} {base B : Nat} {vl vw vl1 : Value} {es : List Ent} {held : Int} {v : Value} (h : BookInv w base B vl vw es held) (hL1 : SRow w1 base vl1 (es.map Ent.v ++ [v])) (hg : (w.alloc (.cells #[v] 32)).grownBy w1 vl.ownBlock)
    (hb : vl1.ownBlock = vl.ownBlock ∨ ∃ g, vl1.ownBlock = some g ∧ (w.alloc (.cells #[v] 32)).heap.size ≤ g) :
    BookAt w1 B vl vw held ∧ SRow (w1.setCell ⟨B, 0, none⟩ vl1) base vl1 (es.map Ent.v ++ [v]) ∧ SRow (w1.setCell ⟨B, 0, none⟩ vl1) base vw (es.map Ent.u) ∧ Went w B vl vw (w1.setCell ⟨B, 0, none⟩ vl1) vl1 vw ∧ (∀ g, vl1.ownBlock = some g → vw.ownBlock ≠ some g) := by
  have hBlt := h.at_.lt
  have hone : Only w w1 (bookS B vl vw) := (Only.alloc w _ _).trans (Only.ofGrown (S := bookS B vl vw) hg (fun i hi => .inr (.inl hi))) (fun _ _ hs => hs)
  have hBl : vl.ownBlock ≠ some B := by
    intro e; obtain ⟨_, cur, hh⟩ := h.lists.block e
    exact apart_types h.at_ hh (by decide) rfl
  have hBw : vw.ownBlock ≠ some B := by
    intro e; obtain ⟨_, cur, hh⟩ := h.was.block e
    exact apart_types h.at_ hh (by decide) rfl
  have hA1 : BookAt w1 B vl vw held := h.at_.kept (by
    rw [hg.block B (by simp; omega) (fun e => hBl e.symm)]
    exact heap_alloc_old w _ hBlt)
  have hBl1 : vl1.ownBlock ≠ some B := by
    intro e; obtain ⟨_, cur, hh⟩ := hL1.block e
    exact apart_types hA1 hh (by decide) rfl
  have hset : ∀ k, k ≠ B → (w1.setCell ⟨B, 0, none⟩ vl1).heap[k]? = w1.heap[k]? := fun k hk => Below.heap_setCell _ _ _ _ hk
  have htwo : ∀ g, vl1.ownBlock = some g → vw.ownBlock ≠ some g := by
    intro g hg1 hg2
    rcases hb with hb | ⟨g', hb, hle⟩
    · exact h.two g (hb ▸ hg1) hg2
    · rw [hb] at hg1; cases hg1
      have := (h.was.lt g hg2).2
      simp at hle; omega
  refine ⟨hA1, hL1.kept fun g hg => hset g (by rintro rfl; exact hBl1 hg), h.was.kept fun g hgw => ?_, ⟨hone.trans (Only.set (S := bookS B vl vw) B 0 vl1 (.inl rfl)) (fun _ _ hs => hs), ?_⟩, htwo⟩
  · rw [hset g (by rintro rfl; exact hBw hgw), hg.block g (by have := (h.was.lt g hgw).2; simp; omega) (fun e => h.two g e.symm hgw)]
    exact heap_alloc_old w _ (h.was.lt g hgw).2
  · rintro k hk (rfl | h1 | h1)
    · exact .inl rfl
    · rcases hb with hb | ⟨g', hb, hle⟩
      · exact .inr (.inl (hb ▸ h1))
      · rw [hb] at h1; cases h1; simp at hle; omega
    · exact .inr (.inr h1)
/-- Behind 'was = append(was, append(nil, v...))': u the copy, made in w3; the row w5; the store. -/
theorem book_push_was {w2 w3 w5 : World} {base B : Nat} {vl1 vw vw1 : Value} {es : List Ent} {held : Int} {v u : Value} {l : List UInt8} (hA : BookAt w2 B vl1 vw held) (hL : SRow w2 base vl1 (es.map Ent.v ++ [v])) (hW : SRow w2 base vw (es.map Ent.u))
    (hE : ∀ e ∈ es, OwnS w2 base e.v e.l ∧ OwnS w2 base e.u e.l) (hv : OwnS w2 base v l) (htwo : ∀ g, vl1.ownBlock = some g → vw.ownBlock ≠ some g) (hP : es.Pairwise fun e f => ∀ g, e.v.ownBlock = some g → f.v.ownBlock ≠ some g)
    (hnew : ∀ e ∈ es, ∀ g, e.v.ownBlock = some g → v.ownBlock ≠ some g) (h3 : Only w2 w3 fun _ => False) (hu : OwnS w3 w2.heap.size u l) (hbase : base ≤ w2.heap.size) (hW5 : SRow w5 base vw1 (es.map Ent.u ++ [u])) (h5 : Only w3 w5 fun k => vw.ownBlock = some k)
    (hb : vw1.ownBlock = vw.ownBlock ∨ ∃ g, vw1.ownBlock = some g ∧ w3.heap.size ≤ g) :
    BookAt w5 B vl1 vw held ∧ BookInv (w5.setCell ⟨B, 1, none⟩ vw1) base B vl1 vw1 (es ++ [⟨v, u, l⟩]) held ∧ Went w2 B vl1 vw (w5.setCell ⟨B, 1, none⟩ vw1) vl1 vw1 := by
  have hBlt := hA.lt
  have hBw : vw.ownBlock ≠ some B := by
    intro e; obtain ⟨_, cur, hh⟩ := hW.block e
    exact apart_types hA hh (by decide) rfl
  have hBl : vl1.ownBlock ≠ some B := by
    intro e; obtain ⟨_, cur, hh⟩ := hL.block e
    exact apart_types hA hh (by decide) rfl
  -- what lies in w2 and is no row of copies lies in w5
  have hkeep : ∀ k, k < w2.heap.size → vw.ownBlock ≠ some k → w5.heap[k]? = w2.heap[k]? := fun k hk hn =>
    (h5.block k (Nat.lt_of_lt_of_le hk h3.size) hn).trans (h3.block k hk (fun h => h))
  have hA5 : BookAt w5 B vl1 vw held := hA.kept (hkeep B hBlt hBw)
  have hBw1 : vw1.ownBlock ≠ some B := by
    intro e; obtain ⟨_, cur, hh⟩ := hW5.block e
    exact apart_types hA5 hh (by decide) rfl
  have hset : ∀ k, k ≠ B → (w5.setCell ⟨B, 1, none⟩ vw1).heap[k]? = w5.heap[k]? := fun k hk => Below.heap_setCell _ _ _ _ hk
  have hbytes : ∀ {x : Value} {m : List UInt8}, OwnS w2 base x m → OwnS (w5.setCell ⟨B, 1, none⟩ vw1) base x m := fun {x m} hx => hx.kept fun g hg => by
    obtain ⟨_, cur, hc⟩ := hx.block hg
    have hgB : g ≠ B := fun e => apart_types hA hc (by decide) e.symm
    rw [hset g hgB]
    exact hkeep g (Array.getElem?_eq_some_iff.1 hc).1 (fun e => by
      obtain ⟨_, cur', hc'⟩ := hW.block e
      exact apart_types hc hc' (by decide) rfl)
  have hu7 : OwnS (w5.setCell ⟨B, 1, none⟩ vw1) base u l := by
    have hu' : OwnS w3 base u l := ownsRow_le hu hbase
    refine hu'.kept fun g hg => ?_
    obtain ⟨_, cur, hc⟩ := hu'.block hg
    have hge := (hu.block hg).1
    have hgB : g ≠ B := by omega
    rw [hset g hgB]
    refine h5.block g (Array.getElem?_eq_some_iff.1 hc).1 (fun e => ?_)
    have := (hW.lt g e).2
    omega
  have htwo' : ∀ g, vl1.ownBlock = some g → vw1.ownBlock ≠ some g := by
    intro g hg1 hg2
    rcases hb with hb | ⟨g', hb, hle⟩
    · exact htwo g hg1 (hb ▸ hg2)
    · rw [hb] at hg2; cases hg2
      have := (hL.lt g hg1).2
      have := h3.size
      omega
  refine ⟨hA5, ⟨hA5.set1 vw1, ?_, ?_, ?_, htwo', ?_⟩, ⟨?_, ?_⟩⟩
  · rw [List.map_append]
    exact hL.kept fun g hg => by
      rw [hset g (by rintro rfl; exact hBl hg)]
      exact hkeep g (hL.lt g hg).2 (htwo g hg)
  · rw [List.map_append]
    exact hW5.kept fun g hg => hset g (by rintro rfl; exact hBw1 hg)
  · intro e he
    rcases List.mem_append.1 he with he | he
    · exact ⟨hbytes (hE e he).1, hbytes (hE e he).2⟩
    · simp at he; subst he; exact ⟨hbytes hv, hu7⟩
  · rw [List.pairwise_append]
    refine ⟨hP, by simp, fun e he f hf => ?_⟩
    simp at hf; subst hf; exact hnew e he
  · refine (((h3.wider (T := bookS B vl1 vw) (fun _ h => h.elim)).trans h5 (S1 := fun k => vw.ownBlock = some k) ?_).trans (Only.set (S := bookS B vl1 vw) B 1 vw1 (.inl rfl)) (fun _ _ hs => hs))
    intro i _ h1; exact .inr (.inr h1)
  · rintro k hk (rfl | h1 | h1)
    · exact .inl rfl
    · exact .inr (.inl h1)
    · rcases hb with hb | ⟨g', hb, hle⟩
      · exact .inr (.inr (hb ▸ h1))
      · rw [hb] at h1; cases h1
        have := h3.size
        omega
/-- The book's own cells alone have turned. -/
theorem BookInv.move {w w' : World} {base B : Nat} {vl vw : Value} {es : List Ent} {held held' : Int} (h : BookInv w base B vl vw es held) (ho : Only w w' fun k => k = B) (hA : BookAt w' B vl vw held') : BookInv w' base B vl vw es held' := by
  have hbl : vl.ownBlock ≠ some B := by
    intro e; obtain ⟨_, cur, hh⟩ := h.lists.block e
    exact apart_types h.at_ hh (by decide) rfl
  have hbw : vw.ownBlock ≠ some B := by
    intro e; obtain ⟨_, cur, hh⟩ := h.was.block e
    exact apart_types h.at_ hh (by decide) rfl
  have hbytes : ∀ {x : Value} {m : List UInt8}, OwnS w base x m → OwnS w' base x m := fun {x m} hx => hx.kept fun g hg => by
    obtain ⟨_, cur, hc⟩ := hx.block hg
    exact ho.block g (Array.getElem?_eq_some_iff.1 hc).1 (fun e => apart_types h.at_ hc (by decide) e.symm)
  exact ⟨hA, h.lists.kept fun g hg => ho.block g (h.lists.lt g hg).2 (by rintro rfl; exact hbl hg), h.was.kept fun g hg => ho.block g (h.was.lt g hg).2 (by rintro rfl; exact hbw hg),
    fun e he => ⟨hbytes (h.ents e he).1, hbytes (h.ents e he).2⟩, h.two, h.pair⟩
/-- The front one is let go. -/
theorem BookInv.cut {w : World} {base B g o n c g' o' n' c' : Nat} {e : Ent} {es : List Ent} {held : Int} (h : BookInv w base B (.slice (some ⟨g, o, none⟩) n c) (.slice (some ⟨g', o', none⟩) n' c') (e :: es) held) (hn : n = es.length + 1) (hn' : n' = es.length + 1) {w' : World}
    (ho : Only w w' fun k => k = B) (hA : BookAt w' B (.slice (some ⟨g, o + 1, none⟩) es.length (c - 1)) (.slice (some ⟨g', o' + 1, none⟩) es.length (c' - 1)) held) :
    BookInv w' base B (.slice (some ⟨g, o + 1, none⟩) es.length (c - 1)) (.slice (some ⟨g', o' + 1, none⟩) es.length (c' - 1)) es held := by
  have hbl : g ≠ B := by
    rintro rfl; obtain ⟨_, cur, hh⟩ := h.lists.block rfl
    exact apart_types h.at_ hh (by decide) rfl
  have hbw : g' ≠ B := by
    rintro rfl; obtain ⟨_, cur, hh⟩ := h.was.block rfl
    exact apart_types h.at_ hh (by decide) rfl
  have hbytes : ∀ {x : Value} {m : List UInt8}, OwnS w base x m → OwnS w' base x m := fun {x m} hx => hx.kept fun g hg => by
    obtain ⟨_, cur, hc⟩ := hx.block hg
    exact ho.block g (Array.getElem?_eq_some_iff.1 hc).1 (fun e => apart_types h.at_ hc (by decide) e.symm)
  have e1 : (es.map Ent.v).length = es.length := List.length_map ..
  have e2 : (es.map Ent.u).length = es.length := List.length_map ..
  have hL := SRow.tail h.lists (by rw [e1]; exact hn)
  have hW := SRow.tail h.was (by rw [e2]; exact hn')
  rw [e1] at hL
  rw [e2] at hW
  refine ⟨hA, hL.kept fun k hk => ho.block k (hL.lt k hk).2 (by rintro rfl; cases hk; exact hbl rfl), hW.kept fun k hk => ho.block k (hW.lt k hk).2 (by rintro rfl; cases hk; exact hbw rfl),
    fun e' he => ⟨hbytes (h.ents e' (List.mem_cons_of_mem _ he)).1, hbytes (h.ents e' (List.mem_cons_of_mem _ he)).2⟩, h.two, (List.pairwise_cons.1 h.pair).2⟩
theorem Went.move {w w1 w2 : World} {B : Nat} {vl vw vl1 vw1 vl2 vw2 : Value} (h : Went w B vl vw w1 vl1 vw1) (ho : Only w1 w2 fun k => k = B) (hl : vl2.ownBlock = vl1.ownBlock) (hw : vw2.ownBlock = vw1.ownBlock) : Went w B vl vw w2 vl2 vw2 :=
  h.trans ⟨ho.wider (fun _ hk => .inl hk), fun k _ hk => by
    rcases hk with hk | hk | hk
    · exact .inl hk
    · exact .inr (.inl (hl ▸ hk))
    · exact .inr (.inr (hw ▸ hk))⟩
end Go.Proofs.YtplmmamebfpcjaaGreatDoor.Oc
end
section
/- (*tesserabook.Book).Keep of bytes: its contract. -/
namespace Go.Proofs.YtplmmamebfpcjaaGreatDoor.Oc
open Go.RowKit
open Go.Joins
/-- append, as one step of a region that draws, by what its run leaves. -/
theorem step_append_ex {P : Program} {ops : Array Oper} {o : Oper} {a : Act} {w : World} {K : Act → World → Prop} {Q : Exit → Act → World → Prop} {E : Prop}
    (hg : o.guard = none) (s x : Operand) (t tx : TypeId) (hop : o.op = Op.call { callee := Callee.builtin Builtin.append, args := #[s, x], argTypes := #[t, tx] }) (v y : Value) (hs : a.eval s = v) (hx : a.eval x = y) (R : Value → World → Prop)
    (hr : ∃ v' w', (Builtin.append_ #[t, tx] o.type #[v, y]).run P w = .ok v' w' ∧ R v' w') (hK : ∀ v' w', R v' w' → K (a.put o.dst v') w') :
    if Region.wanted o (yielded ops a.tmps) = true then Oper.wp P o a w K Q else E := by
  have hw : Region.wanted o (yielded ops a.tmps) = true := by simp [Region.wanted, hg]
  rw [if_pos hw]
  obtain ⟨v', w', hrun, hR⟩ := hr
  unfold Oper.wp
  simp [execOp, hop, resolve, invoke, builtin, hs, hx, hrun, Result.andThen]
  exact hK v' w' hR
/-- What the copy leaves. -/
def R1 (w2 : World) (l : List UInt8) (u : Value) (w3 : World) : Prop := (∃ au cu, u = .slice au l.length cu) ∧ OwnS w3 w2.heap.size u l ∧ Only w2 w3 fun _ => False
theorem OwnS.shape {w : World} {base : Nat} {v : Value} {l : List UInt8} (h : OwnS w base v l) : ∃ a c, v = .slice a l.length c := by
  rcases h.2 with ⟨h0, h1⟩ | ⟨g, cap, cur, hv, _⟩
  · exact ⟨none, 0, by rw [h0, h1]⟩
  · exact ⟨_, _, hv⟩
theorem OwnS.view {w : World} {base : Nat} {a : Option Addr} {c : Nat} {l : List UInt8} (h : OwnS w base (.slice a l.length c) l) : BS w a l ∧ (a = none → c = 0) := by
  rcases h.2 with ⟨h0, h1⟩ | ⟨g, cap, cur, hv, _⟩
  · simp only [Value.slice.injEq] at h0
    refine ⟨.inl (List.eq_nil_of_length_eq_zero h1), fun _ => h0.2.2⟩
  · simp only [Value.slice.injEq, true_and] at hv
    obtain ⟨rfl, _⟩ := hv
    refine ⟨?_, fun e => by cases e⟩
    by_cases hl : 0 < l.length
    · obtain ⟨g', c', e, _, _, _, _, hb⟩ := h.form hl
      simp only [Value.slice.injEq, Option.some.injEq, Addr.mk.injEq, and_true, true_and] at e
      rw [e.1]; exact hb
    · exact .inl (List.eq_nil_of_length_eq_zero (by omega))
theorem copy_step (w2 : World) (base : Nat) (a : Option Addr) (c : Nat) (l : List UInt8) (hv : OwnS w2 base (.slice a l.length c) l) (hl : l.length ≤ 140737488355328) : ∀ wx, Like w2 wx →
    ∃ u w3, (Builtin.append_ #[32, 32] 32 #[.slice none 0 0, .slice a l.length c]).run Tryz.prog wx = .ok u w3 ∧ R1 w2 l u w3 := by
  intro wx hx
  have hv' : OwnS wx base (.slice a l.length c) l := hv.kept fun g _ => by rw [hx.heap]
  obtain ⟨u, w3, hr, ho, hb⟩ := run_own_bytes wx wx.heap.size (.slice none 0 0) [] l a c (World.ownsRow_nil wx _ 5 1) hv'.view.1 hv'.view.2 (Nat.le_refl _) (by simpa using hl)
  rw [List.nil_append] at ho
  rw [hx.heap] at ho
  exact ⟨u, w3, hr, ho.shape, ho, (hx.only _).trans (Only.ofBelow (S := fun _ => False) hb) (fun _ _ h => h)⟩
/-- What the row of copies leaves. -/
def R2 (w3 : World) (base : Nat) (vw : Value) (us : List Value) (vw1 : Value) (w5 : World) : Prop := (∃ g o c, vw1 = .slice (some ⟨g, o, none⟩) us.length c) ∧ SRow w5 base vw1 us ∧ (Only w3 w5 fun k => vw.ownBlock = some k) ∧ (vw1.ownBlock = vw.ownBlock ∨ ∃ g, vw1.ownBlock = some g ∧ w3.heap.size ≤ g)
theorem was_step (w3 : World) (base : Nat) (vw : Value) (us : List Value) (u : Value) (h : Nat) (hu : u.oneCell' = true) (hW : SRow w3 base vw us) (hh : h = w3.heap.size) (hbase : base ≤ w3.heap.size) (hs : us.length ≤ 1000000) : ∀ W, Like (w3.alloc (.cells #[u] 32)) W →
    ∃ vw1 w5, (Builtin.append_ #[56, 56] 56 #[vw, .slice (some ⟨h, 0, none⟩) 1 1]).run Tryz.prog W = .ok vw1 w5 ∧ R2 w3 base vw (us ++ [u]) vw1 w5 := by
  intro W hWl
  have e : W.heap[h]? = (w3.alloc (.cells #[u] 32)).heap[h]? := by rw [hWl.heap]
  have hsz : W.heap.size = w3.heap.size + 1 := by rw [hWl.heap]; simp
  have hcell : W.cell? ⟨h, 0, none⟩ = some u := by
    have := World.cell?_of_block (w := w3.alloc (.cells #[u] 32)) (w' := W) (a := ⟨h, 0, none⟩) e
    rw [this, World.cell?_alloc_at _ _ _ _ hh]; rfl
  obtain ⟨vw1, w5, hr, h1, h2, h3⟩ := run_push W base vw us u h 1 hu (hW.kept fun g hg => by rw [hWl.heap]; exact heap_alloc_old w3 _ (hW.lt g hg).2) hcell (by omega) hs
  obtain ⟨g, o, c, hv, _⟩ := h1.form (by simp)
  refine ⟨vw1, w5, hr, ⟨g, o, c, hv⟩, h1, ?_, ?_⟩
  · exact ((Only.alloc w3 _ _).trans (hWl.only _) (fun _ _ h => h)).trans (Only.ofGrown (S := fun k => vw.ownBlock = some k) h2 (fun _ h => h)) (fun _ _ h => h)
  · rcases h3 with h3 | ⟨g', h3, h4⟩
    · exact .inl h3
    · exact .inr ⟨g', h3, by omega⟩
theorem OwnS.len_le {w : World} {base : Nat} {v : Value} {l : List UInt8} (h : OwnS w base v l) : l.length ≤ 9223372036854775807 := by
  rcases h.2 with ⟨_, h0⟩ | ⟨g, cap, cur, _, _, _, hn, hm, _⟩
  · omega
  · unfold maxLen at hm; omega
theorem same_step_like {wr : World} {base : Nat} {a0 a1 : Option Addr} {k0 k1 : Nat} {l0 : List UInt8} (h0 : OwnS wr base (.slice a0 l0.length k0) l0) (h1 : OwnS wr base (.slice a1 l0.length k1) l0) :
    Hid (∀ wx, Like wr wx → Calls Tryz.prog 10 #[.slice a0 l0.length k0, .slice a1 l0.length k1] wx fun e w' => e = .returned (.bool true) ∧ Only wr w' fun _ => False) := by
  intro wx hx
  have g0 : OwnS wx base (.slice a0 l0.length k0) l0 := h0.kept fun g _ => by rw [hx.heap]
  have g1 : OwnS wx base (.slice a1 l0.length k1) l0 := h1.kept fun g _ => by rw [hx.heap]
  have h := same_any a0 a1 k0 k1 l0 l0 wx h0.len_le g0.view.1 g1.view.1
  rw [decide_eq_true rfl] at h
  exact h.mono fun e w' ⟨e1, e2⟩ => ⟨e1, (hx.only _).trans (Only.ofBelow (S := fun _ => False) e2) (fun _ _ h => h)⟩
/-- What Keep leaves: the last ones of what was kept and of the new one. -/
def KeepPost (w : World) (base B : Nat) (vl vw : Value) (es : List Ent) (v : Value) (l : List UInt8) (w' : World) : Prop :=
  ∃ vl' vw' es' held' u, 0 < es'.length ∧ es' <:+ es ++ [⟨v, u, l⟩] ∧ BookInv w' base B vl' vw' es' held' ∧ Went w B vl vw w' vl' vw'
set_option maxRecDepth 100000 in
set_option maxHeartbeats 16000000 in
theorem keep_any (w : World) (base B : Nat) (vl vw : Value) (es : List Ent) (held : Int) (a : Option Addr) (c : Nat) (l : List UInt8) (hI : BookInv w base B vl vw es held) (hv : OwnS w base (.slice a l.length c) l) (hbase : base ≤ w.heap.size) (hes : es.length ≤ 3999) (hl : l.length ≤ 140737488355328)
    (hnew : ∀ e ∈ es, ∀ g, e.v.ownBlock = some g → (Value.slice a l.length c).ownBlock ≠ some g) :
    Calls Tryz.prog 22 #[.pointer (some ⟨B, 0, none⟩), .slice a l.length c] w fun e w' => e = .returned (.tuple #[]) ∧ KeepPost w base B vl vw es (.slice a l.length c) l w' := by
  have hI' := hI
  obtain ⟨hA, hL, hW, hE, h2, hP⟩ := hI'
  have hc0 := hA.c0
  have hBlt := hA.lt
  -- lists = append(lists, l)
  obtain ⟨vl1, w1, hr1, hL1, hg1, hb1⟩ := run_push (w.alloc (.cells #[.slice a l.length c] 32)) base vl (es.map Ent.v) (.slice a l.length c) w.heap.size 1 rfl (hL.kept fun g hg => heap_alloc_old w _ (hL.lt g hg).2)
    (by rw [World.cell?_alloc_at _ _ _ _ rfl]; rfl) (by simp; omega) (by simp; omega)
  have hA1 : BookAt w1 B vl vw held := hA.kept (by
    rw [hg1.block B (by simp; omega) (by
      intro e; obtain ⟨_, cur, hh⟩ := hL.block e.symm
      exact apart_types hA hh (by decide) rfl)]
    exact heap_alloc_old w _ hBlt)
  have hf1 := hA1.free 0
  have hc10 := hA1.c0
  obtain ⟨gl, ol, cl, rfl, hgl1, hgl2, hcl, _, _⟩ := hL1.form (by simp)
  obtain ⟨n1, hn1⟩ : ∃ n, n = (es.map Ent.v ++ [Value.slice a l.length c]).length := ⟨_, rfl⟩
  rw [← hn1] at hr1 hL1 hb1 hcl
  have HN1 : Hid (n1 = es.length + 1) := hn1.trans (by simp)
  clear hn1
  have hA2 := hA1.set0 (.slice (some ⟨gl, ol, none⟩) n1 cl)
  obtain ⟨w2, hw2⟩ : ∃ w2, w2 = w1.setCell ⟨B, 0, none⟩ (.slice (some ⟨gl, ol, none⟩) n1 cl) := ⟨_, rfl⟩
  rw [← hw2] at hA2
  go_enter Tryz.func22, Tryz.ntmps22
  go_wp2_with (at_builtin; refine wpList_append_run rfl (.tmp 8) (.tmp 10) 56 56 rfl _ _ rfl rfl _ w1 hr1 ?_; clear hr1)
  rw [← hw2]
  have HW2 : Hid (w2 = w1.setCell ⟨B, 0, none⟩ (.slice (some ⟨gl, ol, none⟩) n1 cl)) := hw2
  obtain ⟨q1, q2, q3, q4, q5⟩ := book_push_lists hI hL1 hg1 hb1
  rw [← hw2] at q2 q3 q4
  have HV : OwnS w2 base (.slice a l.length c) l := hI.keeps q4.only hv
  have HX := copy_step w2 base a c l HV hl
  have d1 := hA2.c1
  have d2 := hA2.free 1
  clear hw2
  go_cut [] (fun wr => ∃ vw1 u, BookInv wr base B (.slice (some ⟨gl, ol, none⟩) n1 cl) vw1 (es ++ [⟨.slice a l.length c, u, l⟩]) held ∧ Went w B vl vw wr (.slice (some ⟨gl, ol, none⟩) n1 cl) vw1)
  case first =>
    have hus : (es.map Ent.u).length ≤ 1000000 := by rw [List.length_map]; omega
    have hb2 : base ≤ w2.heap.size := Nat.le_trans hbase q4.only.size
    have hE2 : ∀ e ∈ es, OwnS w2 base e.v e.l ∧ OwnS w2 base e.u e.l := fun e he => ⟨hI.keeps q4.only (hE e he).1, hI.keeps q4.only (hE e he).2⟩
    have HP : Hid (∀ (u vw1 : Value) (w3 w5 : World), R1 w2 l u w3 → R2 w3 base vw (es.map Ent.u ++ [u]) vw1 w5 → BookAt w5 B (.slice (some ⟨gl, ol, none⟩) n1 cl) vw held ∧ BookInv (w5.setCell ⟨B, 1, none⟩ vw1) base B (.slice (some ⟨gl, ol, none⟩) n1 cl) vw1 (es ++ [⟨.slice a l.length c, u, l⟩]) held ∧ Went w2 B (.slice (some ⟨gl, ol, none⟩) n1 cl) vw (w5.setCell ⟨B, 1, none⟩ vw1) (.slice (some ⟨gl, ol, none⟩) n1 cl) vw1) :=
      fun u vw1 w3 w5 r1 r2 => book_push_was hA2 q2 q3 hE2 HV q5 hP hnew r1.2.2 r1.2.1 hb2 r2.2.1 r2.2.2.1 r2.2.2.2
    have HY : Hid (∀ (u : Value) (w3 : World), R1 w2 l u w3 → ∀ W, Like (w3.alloc (.cells #[u] 32)) W → ∃ vw1 w5, (Builtin.append_ #[56, 56] 56 #[vw, .slice (some ⟨w3.heap.size, 0, none⟩) 1 1]).run Tryz.prog W = .ok vw1 w5 ∧ R2 w3 base vw (es.map Ent.u ++ [u]) vw1 w5) := by
      intro u w3 r1
      obtain ⟨⟨au, cu, rfl⟩, _, ho⟩ := r1
      exact was_step w3 base vw _ _ w3.heap.size rfl (q3.kept fun g hg => ho.block g (q3.lt g hg).2 (fun h => h)) rfl (Nat.le_trans hb2 ho.size) hus
    have HA : Hid (∀ (w3 : World), (Only w2 w3 fun _ => False) → BookAt w3 B (.slice (some ⟨gl, ol, none⟩) n1 cl) vw held) := fun w3 ho => hA2.kept (ho.block B hA2.lt (fun h => h))
    clear hE2 hus hE q2 q3 hP hnew hA1 hL hW hI hA hv HV hb1 hg1 hL1
    go_region_law (first
      | (refine step_append_ex rfl (.tmp 18) (.tmp 21) 56 56 rfl vw (.slice (some ⟨w3.heap.size, 0, none⟩) 1 1) rfl rfl (R2 w3 base vw (es.map Ent.u ++ [.slice au l.length cu])) (HY.out (.slice au l.length cu) w3 r1 _ (by first | exact Like.refl _ | exact (Like.refl _).drew)) ?_; rintro vw1 w5 r2; have r2' := r2; obtain ⟨⟨g5, o5, c5, rfl⟩, hs5, ho5, hb5⟩ := r2'; have r3 := HP.out _ _ _ _ r1 r2; have e2 := r3.1.c1; have e3 := r3.1.free 1)
      | (refine step_append_ex rfl (.const (.slice none 0 0)) (.tmp 19) 32 32 rfl (.slice none 0 0) (.slice a l.length c) rfl rfl (R1 w2 l) (HX _ (by first | exact Like.refl _ | exact (Like.refl _).drew)) ?_; rintro u w3 r1; have r1' := r1; obtain ⟨⟨au, cu, rfl⟩, hu3, ho3⟩ := r1'; have e1 := (HA.out w3 ho3).c1; have e5 := (HA.out w3 ho3).lt))
    all_goals
      go_wp2_with fail
      go_meet
    all_goals
      have r4 := r3.2
      simp only [List.length_append, List.length_map, List.length_cons, List.length_nil, Nat.zero_add] at r4
      exact ⟨_, _, r4.1, q4.trans r4.2⟩
  case rest =>
    obtain ⟨vw1, u, hI1, hw1⟩ := hcut
    clear hI hA hL hW hE h2 hP hc0 hBlt hg1 hA1 hf1 hc10 hgl1 hgl2 hcl hb1 hL1 hA2 HW2 q1 q2 q3 q5 HV HX d1 d2 hnew
    have b2 := hI1.at_.c2
    have f2 := hI1.at_.free 2
    go_wp2
    have hI2 := hI1.move (Only.set B 2 (.int .i64 (wrap64 (wrap64 (held + c) + 1))) rfl) (hI1.at_.set2 (wrap64 (wrap64 (held + c) + 1)))
    have hw2 := hw1.move (Only.set B 2 (.int .i64 (wrap64 (wrap64 (held + c) + 1))) rfl) rfl rfl
    obtain ⟨X, hX⟩ : ∃ X, X = es ++ [⟨.slice a l.length c, u, l⟩] := ⟨_, rfl⟩
    rw [← hX] at hI2
    have hX0 : 0 < X.length := by rw [hX]; simp
    have HXS : Hid (X = es ++ [⟨.slice a l.length c, u, l⟩]) := hX
    have HXL : Hid (X.length ≤ 4000) := (show X.length ≤ 4000 by rw [hX]; simp; omega)
    clear hI1 hw1 b2 f2 hX q4 hbase
    go_loopg [] X.length (fun k wr => ∃ (vlr vwr : Value) (es' : List Ent) (held' : Int), es'.length = k ∧ 0 < k ∧ es' <:+ X ∧ BookInv wr base B vlr vwr es' held' ∧ Went w B vl vw wr vlr vwr)
    case atStart => exact ⟨_, _, X, _, rfl, hX0, List.suffix_refl X, hI2, hw2⟩
    case round =>
      obtain ⟨vlr, vwr, es', held', hk, hk0, hsuf, hIr, hwr⟩ := hrel
      obtain ⟨gl', ol', cl', rfl, hgl1, hgl2, hcl', hclm, hlc⟩ := hIr.lists.form (by rw [List.length_map]; omega)
      obtain ⟨gw', ow', cw', rfl, hgw1, hgw2, hcw', hcwm, hwc⟩ := hIr.was.form (by rw [List.length_map]; omega)
      simp only [List.length_map, hk] at hIr hwr hcl' hcw'
      have b0 := hIr.at_.c0
      have b1 := hIr.at_.c1
      have b2 := hIr.at_.c2
      have b3 := hIr.at_.c3
      have hgkX : gk ≤ 4000 := Nat.le_trans (by rw [← hk]; exact hsuf.length_le) HXL.out
      have hgl0 : gk ≤ 9223372036854775807 := by omega
      rcases (show (¬ 1 < gk) ∨ (1 < gk ∧ ¬ 1000000 < held' ∧ ¬ 4000 < gk) ∨ (1 < gk ∧ 1000000 < held') by omega) with hm | ⟨hm, hh, h4⟩ | hc
      · go_wp2
        go_end0
        exact ⟨rfl, _, _, es', held', u, by omega, by rw [← HXS.out]; exact hsuf, hIr, hwr⟩
      · go_wp2
        go_end0
        exact ⟨rfl, _, _, es', held', u, by omega, by rw [← HXS.out]; exact hsuf, hIr, hwr⟩
      all_goals
        cases es' with
        | nil => simp at hk; omega
        | cons e0 rest =>
          have hk' : rest.length + 1 = gk := by simpa using hk
          have c0 := hlc 0 (by simp)
          have c1 := hwc 0 (by simp)
          simp only [List.map_cons, List.getElem_cons_zero, Nat.add_zero] at c0 c1
          obtain ⟨ho0, ho1⟩ := hIr.ents e0 (List.mem_cons_self ..)
          obtain ⟨v0, u0, l0⟩ := e0
          obtain ⟨a0, k0, hv0⟩ := ho0.shape
          obtain ⟨a1, k1, hu0⟩ := ho1.shape
          simp only at hv0 hu0 ho0 ho1 c0 c1
          subst hv0
          subst hu0
          clear hlc hwc
          have HS := same_step_like (wr := wr) ho0 ho1
          have HF : Hid (∀ w5, (Only wr w5 fun _ => False) → BookInv (w5.setCell ⟨B, 3, none⟩ (.bool false)) base B (.slice (some ⟨gl', ol', none⟩) gk cl') (.slice (some ⟨gw', ow', none⟩) gk cw') (⟨.slice a0 l0.length k0, .slice a1 l0.length k1, l0⟩ :: rest) held' ∧ Went w B vl vw (w5.setCell ⟨B, 3, none⟩ (.bool false)) (.slice (some ⟨gl', ol', none⟩) gk cl') (.slice (some ⟨gw', ow', none⟩) gk cw')) := fun w5 ho => by
            have ho' : Only wr w5 fun k => k = B := ho.wider (fun _ h => h.elim)
            have hA := hIr.at_.kept (ho.block B hIr.at_.lt (fun h => h))
            have h1 := hIr.move ho' hA
            have h2 := Only.set (S := fun k => k = B) (w := w5) B 3 (.bool false) rfl
            exact ⟨h1.move h2 hA.set3, (hwr.move ho' rfl rfl).move h2 rfl rfl⟩
          have HA5 : Hid (∀ w5, (Only wr w5 fun _ => False) → BookAt w5 B (.slice (some ⟨gl', ol', none⟩) gk cl') (.slice (some ⟨gw', ow', none⟩) gk cw') held') := fun w5 ho => hIr.at_.kept (ho.block B hIr.at_.lt (fun h => h))
          go_wp2
          go_cut [] (fun wx => BookInv wx base B (.slice (some ⟨gl', ol', none⟩) gk cl') (.slice (some ⟨gw', ow', none⟩) gk cw') (⟨.slice a0 l0.length k0, .slice a1 l0.length k1, l0⟩ :: rest) held' ∧ Went w B vl vw wx (.slice (some ⟨gl', ol', none⟩) gk cl') (.slice (some ⟨gw', ow', none⟩) gk cw'))
          case first =>
            go_region_with (go_at_call 10; refine (HS.out _ (by first | exact Like.refl _ | exact (Like.refl _).drew)).mono ?_; rintro e w5 ⟨rfl, ho5⟩; have hA5 := HA5.out w5 ho5; have z1 := hA5.c3; have z2 := hA5.free 3)
            all_goals
              go_wp2_with fail
              go_meet
            all_goals exact HF.out w5 ho5
          case rest =>
            obtain ⟨hI5, hw5⟩ := hcut
            have y0 := hI5.at_.c0
            have y2 := hI5.at_.c2
            have y3 := hI5.at_.free 2
            have y4 := hI5.lists.form (by simp)
            obtain ⟨_, _, _, hyv, -, -, -, -, hyc⟩ := y4
            simp only [List.map_cons, List.length_cons, List.length_map, Value.slice.injEq, Option.some.injEq, Addr.mk.injEq, and_true] at hyv
            obtain ⟨⟨rfl, rfl⟩, -, rfl⟩ := hyv
            have y5 := hyc 0 (by simp)
            simp only [List.map_cons, List.getElem_cons_zero, Nat.add_zero] at y5
            clear hyc
            go_wp2
            go_region
            obtain ⟨w6, hw6⟩ : ∃ x, x = (wc.setCell ⟨B, 2, none⟩ (.int .i64 (wrap64 (wrap64 (held' - k0) - 1)))).drew := ⟨_, rfl⟩
            have hO6 : Only wc w6 fun k => k = B := by
              have h := Only.set (S := fun k => k = B) (w := wc) B 2 (.int .i64 (wrap64 (wrap64 (held' - k0) - 1))) rfl
              rw [hw6]; exact ⟨h.os, h.tape, h.output, h.size, h.block⟩
            have hI6 := hI5.move hO6 (by rw [hw6]; exact hI5.at_.set2 (wrap64 (wrap64 (held' - k0) - 1)))
            have hw6' := hw5.move hO6 rfl rfl
            rw [← hw6]
            have m0 := hI6.at_.c0
            have m1 := hI6.at_.c1
            have n0 := hI6.at_.free 0
            have n1' := hI6.at_.free 1
            clear hw6 hO6 y0 y2 y3 y5 hI5 hw5
            have hgcl : 1 < cl' := by omega
            have hgcw : 1 < cw' := by omega
            have hO7 : Only w6 ((w6.setCell ⟨B, 0, none⟩ (.slice (some ⟨gl', ol' + 1, none⟩) rest.length (cl' - 1))).setCell ⟨B, 1, none⟩ (.slice (some ⟨gw', ow' + 1, none⟩) rest.length (cw' - 1))) fun k => k = B :=
              (Only.set (S := fun k => k = B) B 0 _ rfl).trans (Only.set (S := fun k => k = B) B 1 _ rfl) (fun _ _ h => h)
            have hI7 := hI6.cut hk'.symm hk'.symm hO7 ((hI6.at_.set0 _).set1 _)
            have hw7 := hw6'.move (vl2 := .slice (some ⟨gl', ol' + 1, none⟩) rest.length (cl' - 1)) (vw2 := .slice (some ⟨gw', ow' + 1, none⟩) rest.length (cw' - 1)) hO7 rfl rfl
            have e : rest.length = gk - 1 := by omega
            have HE : Hid (rest.length = gk - 1) := e
            rw [e] at hI7 hw7
            clear hI6 hw6' hO7 e
            have HK : Hid (rest.length + 1 = gk) := hk'
            have hsuf' : rest <:+ X := (List.suffix_cons _ _).trans hsuf
            clear hk hk' hsuf HS HA5 ho0 ho1 hIr hwr
            go_wp2
            go_roundg (gk - 1)
            case measure => omega
            case rel => exact ⟨_, _, rest, _, HE.out, by omega, hsuf', hI7, hw7⟩
end Go.Proofs.YtplmmamebfpcjaaGreatDoor.Oc
end
section
/- (*tesserabook.Book).Stays of bytes: its contract. -/
namespace Go.Proofs.YtplmmamebfpcjaaGreatDoor.Oc
open Go.RowKit
open Go.Joins
set_option maxRecDepth 100000 in
set_option maxHeartbeats 16000000 in
theorem stays_any (w : World) (base B : Nat) (vl vw : Value) (es : List Ent) (held : Int) (hI : BookInv w base B vl vw es held) (h0 : 0 < es.length) :
    Calls Tryz.prog 52 #[.pointer (some ⟨B, 0, none⟩)] w fun e w' => e = .returned (.bool true) ∧ BookInv w' base B vl vw es held ∧ Only w w' fun k => k = B := by
  obtain ⟨gl, ol, cl, rfl, -, -, hcl, hclm, -⟩ := hI.lists.form (by rw [List.length_map]; exact h0)
  obtain ⟨gw, ow, cw, rfl, -, -, hcw, hcwm, -⟩ := hI.was.form (by rw [List.length_map]; exact h0)
  simp only [List.length_map] at hI hcl hcw ⊢
  obtain ⟨n, hn⟩ : ∃ n, n = es.length := ⟨_, rfl⟩
  rw [← hn] at hI hcl hcw h0 ⊢
  have HN : Hid (n = es.length) := hn
  have HI : Hid (BookInv w base B (.slice (some ⟨gl, ol, none⟩) n cl) (.slice (some ⟨gw, ow, none⟩) n cw) es held) := hI
  have hn63 : n ≤ 9223372036854775807 := by unfold maxLen at hclm; omega
  clear hn hI hclm hcwm
  go_enter Tryz.func52, Tryz.ntmps52
  go_wp2
  go_loopg [3] n (fun k i wr => ∃ q : Nat, q ≤ n ∧ k = n - q ∧ i = .int .i64 q ∧ BookInv wr base B (.slice (some ⟨gl, ol, none⟩) n cl) (.slice (some ⟨gw, ow, none⟩) n cw) es held ∧ Only w wr fun k => k = B)
  case atStart => exact ⟨0, Nat.zero_le _, rfl, rfl, HI.out, Only.refl _ _⟩
  case round =>
    obtain ⟨q, hq, rfl, rfl, hIr, hor⟩ := hrel
    have b0 := hIr.at_.c0
    have b1 := hIr.at_.c1
    have b3 := hIr.at_.c3
    by_cases hlt : q < n
    · obtain ⟨_, _, _, e1, -, -, -, -, hlc⟩ := hIr.lists.form (by rw [List.length_map, ← HN.out]; omega)
      obtain ⟨_, _, _, e2, -, -, -, -, hwc⟩ := hIr.was.form (by rw [List.length_map, ← HN.out]; omega)
      simp only [Value.slice.injEq, Option.some.injEq, Addr.mk.injEq, and_true] at e1 e2
      obtain ⟨⟨rfl, rfl⟩, -, rfl⟩ := e1
      obtain ⟨⟨rfl, rfl⟩, -, rfl⟩ := e2
      have hqe : q < es.length := by rw [← HN.out]; exact hlt
      have c0 := hlc q (by rw [List.length_map]; exact hqe)
      have c1 := hwc q (by rw [List.length_map]; exact hqe)
      simp only [List.getElem_map] at c0 c1
      obtain ⟨ho0, ho1⟩ := hIr.ents es[q] (List.getElem_mem hqe)
      obtain ⟨e0, he0⟩ : ∃ e0, e0 = es[q] := ⟨_, rfl⟩
      rw [← he0] at c0 c1 ho0 ho1
      clear he0 hlc hwc hqe
      obtain ⟨v0, u0, l0⟩ := e0
      obtain ⟨a0, k0, hv0⟩ := ho0.shape
      obtain ⟨a1, k1, hu0⟩ := ho1.shape
      simp only at hv0 hu0 ho0 ho1 c0 c1
      subst hv0
      subst hu0
      have HS := same_step_like (wr := wr) ho0 ho1
      have HF : Hid (∀ w5, (Only wr w5 fun _ => False) → BookInv (w5.setCell ⟨B, 3, none⟩ (.bool false)) base B (.slice (some ⟨gl, ol, none⟩) n cl) (.slice (some ⟨gw, ow, none⟩) n cw) es held ∧ Only w (w5.setCell ⟨B, 3, none⟩ (.bool false)) fun k => k = B) := fun w5 ho => by
        have ho' : Only wr w5 fun k => k = B := ho.wider (fun _ h => h.elim)
        have hA := hIr.at_.kept (ho.block B hIr.at_.lt (fun h => h))
        have h1 := hIr.move ho' hA
        have h2 := Only.set (S := fun k => k = B) (w := w5) B 3 (.bool false) rfl
        exact ⟨h1.move h2 hA.set3, (hor.trans ho' (fun _ _ h => h)).trans h2 (fun _ _ h => h)⟩
      have HA5 : Hid (∀ w5, (Only wr w5 fun _ => False) → BookAt w5 B (.slice (some ⟨gl, ol, none⟩) n cl) (.slice (some ⟨gw, ow, none⟩) n cw) held) := fun w5 ho => hIr.at_.kept (ho.block B hIr.at_.lt (fun h => h))
      clear hIr hor ho0 ho1
      go_wp2
      go_region_with (go_at_call 10; refine (HS.out _ (by first | exact Like.refl _ | exact (Like.refl _).drew)).mono ?_; rintro e w5 ⟨rfl, ho5⟩; have hA5 := HA5.out w5 ho5; have z1 := hA5.c3; have z2 := hA5.free 3)
      all_goals
        have hF := HF.out w5 ho5
        clear HF HA5 HS ho5 hA5 z1 z2 b0 b1 b3 c0 c1
        go_wp2
        go_roundg (n - (q + 1))
        case measure => omega
        case rel => exact ⟨q + 1, by omega, rfl, by go_num, hF.1, hF.2⟩
    · go_wp2
      go_ret
      exact ⟨rfl, hIr, hor⟩
end Go.Proofs.YtplmmamebfpcjaaGreatDoor.Oc
end
section
/- tesserabook.Bytes: its contract: the mark of a place. -/
namespace Go.Proofs.YtplmmamebfpcjaaGreatDoor.Oc
open Go.RowKit
/-- The mark of place j of list i. -/
def markB (i j : Nat) : Nat := (i + 1) / 2 ^ (8 * (j % 3)) % 256
theorem mark_cast (i j : Nat) : ((i : Int) + 1) / 2 ^ (8 * (j % 3)) % 256 = ((markB i j : Nat) : Int) := by
  have e1 : ((i : Int) + 1) / 2 ^ (8 * (j % 3)) = (((i + 1) / 2 ^ (8 * (j % 3)) : Nat) : Int) := by
    rw [Int.natCast_ediv]; congr 1
  rw [e1]; unfold markB; omega
set_option maxHeartbeats 400000 in
theorem bytes_any (i j : Nat) (w : World) (hi : i ≤ 1000000) (hj : j ≤ 9223372036854775807) :
    Calls Tryz.prog 25 #[.int .i64 i, .int .i64 j] w fun e w' => e = .returned (.int .u8 (markB i j : Nat)) ∧ w' = w := by
  go_enter Tryz.func25, Tryz.ntmps25
  go_wp2
  go_ret
  refine ⟨?_, rfl⟩
  rw [mark_cast]
  rfl
end Go.Proofs.YtplmmamebfpcjaaGreatDoor.Oc
end
section
/- (*tesserabook.Book).Apart of bytes: its contract. -/
namespace Go.Proofs.YtplmmamebfpcjaaGreatDoor.Oc
open Go.RowKit
open Go.Joins
/-- The value's block lies there, of as many cells as it has room. -/
def Blk (w : World) (v : Value) : Prop := ∀ g n c, v = .slice (some ⟨g, 0, none⟩) n c → ∃ cur : Array Value, w.heap[g]? = some (.cells cur 5 (0, 0)) ∧ cur.size = c
/-- Its cells are the marks of i, the first m of them. -/
def Marks (w : World) (v : Value) (i m : Nat) : Prop := ∀ g n c, v = .slice (some ⟨g, 0, none⟩) n c → ∃ cur : Array Value, w.heap[g]? = some (.cells cur 5 (0, 0)) ∧ cur.size = c ∧ ∀ j, j < m → j < c → cur[j]? = some (.int .u8 (markB i j : Nat))
theorem OwnS.blk {w : World} {base : Nat} {v : Value} {l : List UInt8} (h : OwnS w base v l) : Blk w v := by
  intro g n c hv
  rcases h.2 with ⟨h0, _⟩ | ⟨g', cap, cur, h1, _, hh, _, _, hs, _⟩
  · rw [h0] at hv; simp at hv
  · rw [h1] at hv
    simp only [Value.slice.injEq, Option.some.injEq, Addr.mk.injEq, and_true] at hv
    obtain ⟨rfl, -, rfl⟩ := hv
    exact ⟨cur, hh, by omega⟩
/-- nil, or at the head of a block. -/
theorem OwnS.heads {w : World} {base : Nat} {v : Value} {l : List UInt8} (h : OwnS w base v l) : (v = .slice none 0 0 ∧ l = []) ∨ ∃ g c, v = .slice (some ⟨g, 0, none⟩) l.length c ∧ c ≤ 9223372036854775807 ∧ l.length ≤ c := by
  rcases h.2 with ⟨h0, h1⟩ | ⟨g, cap, cur, h1, _, _, hn, hm, _⟩
  · exact .inl ⟨h0, List.eq_nil_of_length_eq_zero h1⟩
  · exact .inr ⟨g, cap, h1, by simpa [maxLen] using hm, hn⟩
theorem Marks.zero {w : World} {v : Value} (h : Blk w v) (i : Nat) : Marks w v i 0 := fun g n c hv => by
  obtain ⟨cur, h1, h2⟩ := h g n c hv
  exact ⟨cur, h1, h2, fun j hj => by omega⟩
theorem Marks.set {w : World} {g n c i j : Nat} (h : Marks w (.slice (some ⟨g, 0, none⟩) n c) i j) (hj : j < c) : Marks (w.setCell ⟨g, j, none⟩ (.int .u8 (markB i j : Nat))) (.slice (some ⟨g, 0, none⟩) n c) i (j + 1) := by
  intro g' n' c' hv
  simp only [Value.slice.injEq, Option.some.injEq, Addr.mk.injEq, and_true] at hv
  obtain ⟨rfl, rfl, rfl⟩ := hv
  obtain ⟨cur, h1, h2, h3⟩ := h g n c rfl
  refine ⟨_, block_setCell h1 _, by simpa using h2, fun k hk hkc => ?_⟩
  rw [Array.getElem?_setIfInBounds]
  by_cases e : j = k
  · subst e; rw [if_pos rfl, if_pos (by omega)]
  · rw [if_neg e]; exact h3 k (by omega) hkc
theorem Marks.kept {w w' : World} {v : Value} {i m : Nat} (h : Marks w v i m) (hk : ∀ g, v.ownBlock = some g → w'.heap[g]? = w.heap[g]?) : Marks w' v i m := fun g n c hv => by
  obtain ⟨cur, h1, h2, h3⟩ := h g n c hv
  exact ⟨cur, by rw [hk g (by rw [hv]; rfl)]; exact h1, h2, h3⟩
theorem Blk.kept {w w' : World} {v : Value} (h : Blk w v) (hk : ∀ g, v.ownBlock = some g → w'.heap[g]? = w.heap[g]?) : Blk w' v := fun g n c hv => by
  obtain ⟨cur, h1, h2⟩ := h g n c hv
  exact ⟨cur, by rw [hk g (by rw [hv]; rfl)]; exact h1, h2⟩
/-- The first q lists are written full. -/
structure Ph (w : World) (base B : Nat) (vl vw : Value) (es : List Ent) (held : Int) (q : Nat) (wr : World) : Prop where
  at_ : BookAt wr B vl vw held
  lists : SRow wr base vl (es.map Ent.v)
  done : ∀ i (h : i < es.length), i < q → ∀ m, Marks wr es[i].v i m
  blk : ∀ e ∈ es, Blk wr e.v
  own : ∀ e ∈ es, ∀ g, e.v.ownBlock = some g → base ≤ g ∧ g ≠ B ∧ vl.ownBlock ≠ some g
  below : Below base w wr
theorem Ph.start {w wr : World} {base B : Nat} {vl vw : Value} {es : List Ent} {held : Int} (h : BookInv wr base B vl vw es held) (hb : Below base w wr) : Ph w base B vl vw es held 0 wr :=
  ⟨h.at_, h.lists, fun i _ hi => by omega, fun e he => (h.ents e he).1.blk, fun e he g hg => by
    obtain ⟨h1, cur, hc⟩ := (h.ents e he).1.block hg
    have := h.notBook (h.ents e he).1 hg
    exact ⟨h1, fun e => this (.inl e), fun e => this (.inr (.inl e))⟩, hb⟩
theorem Ph.step {w wr : World} {base B : Nat} {vl vw : Value} {es : List Ent} {held : Int} {q g n c j : Nat} (h : Ph w base B vl vw es held q wr) (hP : es.Pairwise fun e f => ∀ g, e.v.ownBlock = some g → f.v.ownBlock ≠ some g) (hq : q < es.length)
    (hv : es[q].v = .slice (some ⟨g, 0, none⟩) n c) (hm : Marks wr es[q].v q j) (hj : j < c) :
    Ph w base B vl vw es held q (wr.setCell ⟨g, j, none⟩ (.int .u8 (markB q j : Nat))) ∧ Marks (wr.setCell ⟨g, j, none⟩ (.int .u8 (markB q j : Nat))) es[q].v q (j + 1) := by
  have hmem : es[q] ∈ es := List.getElem_mem hq
  have hg : es[q].v.ownBlock = some g := by rw [hv]; rfl
  obtain ⟨o1, o2, o3⟩ := h.own _ hmem g hg
  have hset : ∀ k, k ≠ g → (wr.setCell ⟨g, j, none⟩ (.int .u8 (markB q j : Nat))).heap[k]? = wr.heap[k]? := fun k hk => Below.heap_setCell _ _ _ _ hk
  refine ⟨⟨h.at_.kept (hset B (fun e => o2 e.symm)), h.lists.kept fun k hk => hset k (by rintro rfl; exact o3 hk), fun i hi hiq m => (h.done i hi hiq m).kept fun k hk => hset k (by
    rintro rfl
    exact (List.pairwise_iff_getElem.1 hP i q hi hq hiq) k hk hg), fun e he => ?_, h.own, h.below.setCell o1 _⟩, ?_⟩
  · intro g' n' c' hv'
    obtain ⟨cur, h1, h2⟩ := h.blk e he g' n' c' hv'
    by_cases hgg : g' = g
    · subst hgg; exact ⟨_, block_setCell h1 _, by simpa using h2⟩
    · exact ⟨cur, by rw [hset g' hgg]; exact h1, h2⟩
  · rw [hv] at hm ⊢
    exact hm.set hj
theorem Ph.next {w wr : World} {base B : Nat} {vl vw : Value} {es : List Ent} {held : Int} {q : Nat} (h : Ph w base B vl vw es held q wr) (hq : q < es.length) (hm : ∀ m, Marks wr es[q].v q m) : Ph w base B vl vw es held (q + 1) wr :=
  ⟨h.at_, h.lists, fun i hi hiq m => by
    rcases Nat.lt_or_ge i q with hlt | hge
    · exact h.done i hi hlt m
    · have : i = q := by omega
      subst this; exact hm m, h.blk, h.own, h.below⟩
theorem Ph.drewN {w wr : World} {base B : Nat} {vl vw : Value} {es : List Ent} {held : Int} {q : Nat} (h : Ph w base B vl vw es held q wr) (k : Nat) : Ph w base B vl vw es held q (wr.drewN k) :=
  ⟨h.at_, h.lists, h.done, h.blk, h.own, below_drewN h.below k⟩
theorem Marks.full {w : World} {g n c i : Nat} (h : Marks w (.slice (some ⟨g, 0, none⟩) n c) i c) (m : Nat) : Marks w (.slice (some ⟨g, 0, none⟩) n c) i m := fun g' n' c' hv => by
  obtain ⟨cur, h1, h2, h3⟩ := h g' n' c' hv
  simp only [Value.slice.injEq] at hv
  obtain ⟨-, -, rfl⟩ := hv
  exact ⟨cur, h1, h2, fun j _ hj => h3 j hj hj⟩
theorem Marks.ofNil {w : World} {n c i m : Nat} : Marks w (.slice none n c) i m := fun g' n' c' hv => by simp at hv
end Go.Proofs.YtplmmamebfpcjaaGreatDoor.Oc
end
