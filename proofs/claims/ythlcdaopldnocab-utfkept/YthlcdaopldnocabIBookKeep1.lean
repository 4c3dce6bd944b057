/- (*tesserabook.Book).Keep of bytes: its contract. -/
import Derived.Test.YthlcdaopldnocabISame
import Derived.Deep.QuietTactic
import Derived.BigQuiet
import Derived.Deep.RegionLaw
import Derived.Deep.DeepCutAuto
import Derived.Deep.LoopGhost
namespace Go.Proofs.Ythlcdaopldnocab
open Go.RowKit
open Go.Joins
/-- append, as one step of a region that draws, by what its run leaves. -/
theorem step_append_ex {P : Program} {ops : Array Oper} {o : Oper} {a : Act} {w : World} {K : Act → World → Prop} {Q : Exit → Act → World → Prop} {E : Prop}
    (hg : o.guard = none) (s x : Operand) (t tx : TypeId) (hop : o.op = Op.call { callee := Callee.builtin Builtin.append, args := #[s, x], argTypes := #[t, tx] }) (v y : Value) (hs : a.eval s = v) (hx : a.eval x = y) (R : Value → World → Prop)
    (hr : ∃ v' w', (Builtin.append_ #[t, tx] o.type #[v, y]).run P w = .ok v' w' ∧ R v' w') (hK : ∀ v' w', R v' w' → K (a.put o.dst v') w') :
    if Region.wanted o (yielded ops a.tmps) = true then Oper.wp P o a w K Q else E := by
  have hw : Region.wanted o (yielded ops a.tmps) = true := by simp [Region.wanted, hg]
  rw [if_pos hw]
  obtain ⟨v', w', hrun, hR⟩ := hr
  unfold Oper.wp
  simp [execOp, hop, resolve, invoke, builtin, hs, hx, hrun, Result.andThen]
  exact hK v' w' hR
/-- What the copy leaves. -/
def R1 (w2 : World) (l : List It) (u : Value) (w3 : World) : Prop := (∃ au cu, u = .slice au l.length cu) ∧ OwnI 29 w3 w2.heap.size u l ∧ Only w2 w3 fun _ => False
theorem OwnI.shape {w : World} {base : Nat} {v : Value} {l : List It} (h : OwnI 29 w base v l) : ∃ a c, v = .slice a l.length c := by
  obtain ⟨a, c, h, _⟩ := h.its
  exact ⟨a, c, h⟩
theorem cellsI_one (l : List It) : ∀ v ∈ cellsI l, v.oneCell' = true := by
  intro v hv
  obtain ⟨x, _, hx⟩ := List.mem_flatMap.1 hv
  exact cellI_one x v hx
theorem copy_step (w2 : World) (base : Nat) (a : Option Addr) (c : Nat) (l : List It) (hv : OwnI 29 w2 base (.slice a l.length c) l) (hl : l.length * 24 ≤ 140737488355328) : ∀ wx, Like w2 wx →
    ∃ u w3, (Builtin.append_ #[25, 25] 25 #[.slice none 0 0, .slice a l.length c]).run Try.prog wx = .ok u w3 ∧ R1 w2 l u w3 := by
  intro wx hx
  obtain ⟨i0, hi, hz0, hz1, hz2⟩ := info_parts info29
  have hv' : OwnI 29 wx base (.slice a l.length c) l := hv.kept fun g _ => by rw [hx.heap]
  by_cases hn : l = []
  · have h0 := hv'.2.2 hn
    subst hn
    rw [h0]
    refine ⟨.slice none 0 0, wx, run_append_owned_none (P := Try.prog) wx wx.heap.size 25 25 29 i0 4 Try.underlying25 hi (.slice none 0 0) _ _ (World.ownsRow_nil wx _ 29 4), ⟨none, 0, rfl⟩, OwnI.nil _ _ _, hx.only _⟩
  · have hp := List.length_pos_iff.2 hn
    obtain ⟨g, cap, he, _, _, hc, _, _⟩ := hv'.form hn
    rw [he] at hv' ⊢
    obtain ⟨u, w3, hr, ho, hb, _⟩ := run_append_own (P := Try.prog) wx wx.heap.size 25 25 29 i0 _ 4 24 Try.underlying25 hi hz0 hz1 hz2 rfl (by decide) (.slice none 0 0) 0 [] (World.ownsRow_nil wx _ 29 4) ⟨g, 0, none⟩ l.length cap (cellsI l) (cellsI_length l) (fun j u hu => by
      have hj : j < l.length * 4 := by
        rw [← cellsI_length]
        exact (List.getElem?_eq_some_iff.1 hu).1
      rw [cell_add, Nat.zero_add, World.ownsRow.cellAt hv'.1 j hj, hu]) (cellsI_one l) (by unfold maxLen; omega) (by omega) (Nat.le_refl _)
    rw [List.nil_append, Nat.zero_add] at ho
    have hu : u ≠ .slice none 0 0 := fun e => by
      obtain ⟨g', cap', e'⟩ := ownsRow_form ho hp
      rw [e] at e'
      cases e'
    have ho' : OwnI 29 w3 wx.heap.size u l := ⟨ho, ⟨fun e => absurd e hu, fun e => absurd e hn⟩⟩
    rw [hx.heap] at ho'
    exact ⟨u, w3, hr, ho'.shape, ho', (hx.only _).trans (Only.ofGrown (S := fun _ => False) hb (fun i h => by cases h)) (fun _ _ h => h)⟩
/-- What the row of copies leaves. -/
def R2 (w3 : World) (base : Nat) (vw : Value) (us : List Value) (vw1 : Value) (w5 : World) : Prop := (∃ g o c, vw1 = .slice (some ⟨g, o, none⟩) us.length c) ∧ SRow w5 base vw1 us ∧ (Only w3 w5 fun k => vw.ownBlock = some k) ∧ (vw1.ownBlock = vw.ownBlock ∨ ∃ g, vw1.ownBlock = some g ∧ w3.heap.size ≤ g)
theorem was_step (w3 : World) (base : Nat) (vw : Value) (us : List Value) (u : Value) (h : Nat) (hu : u.oneCell' = true) (hW : SRow w3 base vw us) (hh : h = w3.heap.size) (hbase : base ≤ w3.heap.size) (hs : us.length ≤ 1000000) : ∀ W, Like (w3.alloc (.cells #[u] 25)) W →
    ∃ vw1 w5, (Builtin.append_ #[34, 34] 34 #[vw, .slice (some ⟨h, 0, none⟩) 1 1]).run Try.prog W = .ok vw1 w5 ∧ R2 w3 base vw (us ++ [u]) vw1 w5 := by
  intro W hWl
  have e : W.heap[h]? = (w3.alloc (.cells #[u] 25)).heap[h]? := by rw [hWl.heap]
  have hsz : W.heap.size = w3.heap.size + 1 := by rw [hWl.heap]; simp
  have hcell : W.cell? ⟨h, 0, none⟩ = some u := by
    have := World.cell?_of_block (w := w3.alloc (.cells #[u] 25)) (w' := W) (a := ⟨h, 0, none⟩) e
    rw [this, World.cell?_alloc_at _ _ _ _ hh]; rfl
  obtain ⟨vw1, w5, hr, h1, h2, h3⟩ := run_push W base vw us u h 1 hu (hW.kept fun g hg => by rw [hWl.heap]; exact heap_alloc_old w3 _ (hW.lt g hg).2) hcell (by omega) hs
  obtain ⟨g, o, c, hv, _⟩ := h1.form (by simp)
  refine ⟨vw1, w5, hr, ⟨g, o, c, hv⟩, h1, ?_, ?_⟩
  · exact ((Only.alloc w3 _ _).trans (hWl.only _) (fun _ _ h => h)).trans (Only.ofGrown (S := fun k => vw.ownBlock = some k) h2 (fun _ h => h)) (fun _ _ h => h)
  · rcases h3 with h3 | ⟨g', h3, h4⟩
    · exact .inl h3
    · exact .inr ⟨g', h3, by omega⟩
theorem OwnI.len_le {w : World} {base : Nat} {v : Value} {l : List It} (h : OwnI 29 w base v l) : l.length ≤ 9223372036854775807 := by
  rcases h.1.2 with ⟨_, h0⟩ | ⟨g, cap, cur, _, _, _, hn, hm, _⟩
  · omega
  · unfold maxLen at hm; omega
theorem same_step_like {wr : World} {base : Nat} {a0 a1 : Option Addr} {k0 k1 : Nat} {l0 : List It} (h0 : OwnI 29 wr base (.slice a0 l0.length k0) l0) (h1 : OwnI 29 wr base (.slice a1 l0.length k1) l0) :
    Hid (∀ wx, Like wr wx → Calls Try.prog 18 #[.slice a0 l0.length k0, .slice a1 l0.length k1] wx fun e w' => e = .returned (.bool true) ∧ Only wr w' fun _ => False) := by
  intro wx hx
  have g0 : OwnI 29 wx base (.slice a0 l0.length k0) l0 := h0.kept fun g _ => by rw [hx.heap]
  have g1 : OwnI 29 wx base (.slice a1 l0.length k1) l0 := h1.kept fun g _ => by rw [hx.heap]
  obtain ⟨x0, y0, e0, i0, _⟩ := g0.its
  obtain ⟨x1, y1, e1, i1, _⟩ := g1.its
  rw [e0, e1]
  exact (isame_eq x0 x1 y0 y1 l0 wx h0.len_le i0 i1).mono fun e w' ⟨e1, e2⟩ => ⟨e1, (hx.only _).trans (Only.ofBelow (S := fun _ => False) e2) (fun _ _ h => h)⟩
end Go.Proofs.Ythlcdaopldnocab
