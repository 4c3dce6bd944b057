/- What ModelNamed keeps in memory: a list of names, a row of merges that grows. -/
import Derived.Test.YtlnebbciefdpoaaDoorMNamedMath
import Derived.Test.YtlnebbciefdpoaaDoorAppRun
import Derived.Test.YtlnebbciefdpoaaDoorMHanded
import Derived.Laws.AppendOwn
import Derived.Laws.OwnMore
namespace Go.Proofs.YtlnebbciefdpoaaDoor
open Go.RowKit Go.Sort Go.Joins
set_option linter.unusedVariables false
/-- Block g holds the numbers T, and no more. -/
def IntB (w : World) (g : Nat) (T : List Int) : Prop := w.heap[g]? = some (.cells (T.map fun x => Value.int .i64 x).toArray 3 (0, 0))
theorem IntB.lt {w : World} {g : Nat} {T : List Int} (h : IntB w g T) : g < w.heap.size := (Array.getElem?_eq_some_iff.1 h).1
theorem IntB.cell {w : World} {g : Nat} {T : List Int} (h : IntB w g T) {j : Nat} {v : Int} (hv : T[j]? = some v) : w.cell? ⟨g, j, none⟩ = some (.int .i64 v) := by
  rw [cell_of_block h]; simp [hv]
theorem IntB.free {w : World} {g : Nat} {T : List Int} (h : IntB w g T) (j : Nat) : w.frozen? ⟨g, j, none⟩ = false := unfrozen_of_block h j
theorem IntB.set {w : World} {g : Nat} {T : List Int} (h : IntB w g T) (j : Nat) (v : Int) : IntB (w.setCell ⟨g, j, none⟩ (.int .i64 v)) g (T.set j v) := by
  have := block_setCell h (i := j) (.int .i64 v)
  unfold IntB; rw [this]; simp [List.map_set]
theorem IntB.below {w w' : World} {g B : Nat} {T : List Int} (h : IntB w g T) (hb : Below B w w') (hg : g < B) : IntB w' g T := (hb.block g hg).trans h
theorem IntB.other {w : World} {g b o : Nat} {T : List Int} (h : IntB w g T) (hb : g ≠ b) (v : Value) : IntB (w.setCell ⟨b, o, none⟩ v) g T := (set_other hb v).trans h
/-- The slice that begins at a holds the numbers l. -/
def INS (w : World) (a : Option Addr) (l : List Int) : Prop :=
  l = [] ∨ ∃ b off, a = some ⟨b, off, none⟩ ∧ ∀ i r, l[i]? = some r → w.cell? ⟨b, off + i, none⟩ = some (.int .i64 r)
theorem INS.below {w w' : World} {a : Option Addr} {l : List Int} (h : INS w a l) (hb : Below w.heap.size w w') : INS w' a l := by
  rcases h with h | ⟨b, off, rfl, hc⟩
  · exact .inl h
  · exact .inr ⟨b, off, rfl, fun i r hr => (hb.cell (World.block_lt_of_cell? w _ (hc i r hr))).trans (hc i r hr)⟩
theorem INS.at_ {w : World} {a : Option Addr} {l : List Int} (h : INS w a l) {i : Nat} {r : Int} (hr : l[i]? = some r) : ∃ b off, a = some ⟨b, off, none⟩ ∧ w.cell? ⟨b, off + i, none⟩ = some (.int .i64 r) := by
  rcases h with rfl | ⟨b, off, rfl, hc⟩
  · simp at hr
  · exact ⟨b, off, rfl, hc i r hr⟩
/-- A row of merges of one's own. -/
def OwnMr (w : World) (base : Nat) (v : Value) (l : List Mg) : Prop := w.ownsRow base 36 3 v l.length (cellsM l)
theorem OwnMr.nil (w : World) (base : Nat) : OwnMr w base (.slice none 0 0) [] := World.ownsRow_nil w base _ 3
theorem OwnMr.below {w w' : World} {base B : Nat} {v : Value} {l : List Mg} (h : OwnMr w base v l) (hb : Below B w w') (hB : w.heap.size ≤ B) : OwnMr w' base v l := by
  refine ⟨h.1, ?_⟩
  rcases h.2 with h0 | ⟨g, cap, cur, hv, hg, hh, r⟩
  · exact .inl h0
  · refine .inr ⟨g, cap, cur, hv, hg, ?_, r⟩
    rw [hb.block g (Nat.lt_of_lt_of_le (Array.getElem?_eq_some_iff.1 hh).1 hB)]
    exact hh
theorem OwnMr.away {w : World} {base : Nat} {v : Value} {l : List Mg} (h : OwnMr w base v l) {b o : Nat} (hb : b < base) (u : Value) : OwnMr (w.setCell ⟨b, o, none⟩ u) base v l := ownsRow_setCell_below h (a := ⟨b, o, none⟩) hb u
theorem OwnMr.form {w : World} {base : Nat} {v : Value} {l : List Mg} (h : OwnMr w base v l) : ∃ a c, v = .slice a l.length c ∧ MSP w a l := by
  rcases h.2 with ⟨rfl, h0⟩ | ⟨g, cap, cur, rfl, hg, hh, hn, hm, hcs, ht⟩
  · have : l = [] := List.length_eq_zero_iff.1 h0
    subst this
    exact ⟨none, 0, rfl, .inl rfl⟩
  · refine ⟨some ⟨g, 0, none⟩, cap, rfl, .inr ⟨g, 0, rfl, fun i x hx => ?_⟩⟩
    have hi := (List.getElem?_eq_some_iff.1 hx).1
    obtain ⟨r0, r1, r2⟩ := cellsM_get l i x hx
    unfold MgAt
    rw [Nat.zero_add, World.ownsRow.cellAt h (i * 3) (by omega), World.ownsRow.cellAt h (i * 3 + 1) (by omega), World.ownsRow.cellAt h (i * 3 + 2) (by omega)]
    exact ⟨r0, r1, r2⟩
theorem cellsM_snoc (l : List Mg) (x : Mg) : cellsM (l ++ [x]) = cellsM l ++ [.int .i64 x.l, .int .i64 x.r, .int .i64 x.i] := by simp [cellsM]
theorem run_own_mg (W : World) (base : Nat) (v : Value) (l : List Mg) (x : Mg) (b cap : Nat) (hown : OwnMr W base v l) (hx : W.heap[b]? = some (.cells #[.int .i64 x.l, .int .i64 x.r, .int .i64 x.i] 36 (0, 0))) (hb : base ≤ W.heap.size) (hsz : l.length ≤ 4096) :
    ∃ v' w', (Builtin.append_ #[39, 39] 39 #[v, .slice (some ⟨b, 0, none⟩) 1 cap]).run Tryd.prog W = .ok v' w' ∧ OwnMr w' base v' (l ++ [x]) ∧ Below base W w' := by
  obtain ⟨i0, hi, hz0, hz1, hz2⟩ := info_parts infoM
  obtain ⟨v', w', h1, h2, h3, _⟩ := run_append_own (P := Tryd.prog) W base 39 39 36 i0 _ 3 24 Tryd.underlying39 hi hz0 hz1 hz2 (by simp [Value.cells]) (by decide) v l.length (cellsM l) hown ⟨b, 0, none⟩ 1 cap [.int .i64 x.l, .int .i64 x.r, .int .i64 x.i] rfl (fun j u hu => by
      rw [cell_add, Nat.zero_add, cell_of_block hx]
      simpa using hu) (by simp [Value.oneCell']) (by unfold maxLen; omega) (by omega) hb
  refine ⟨v', w', h1, ?_, (Below.refl base W).grown h3 hb fun k hk => (World.ownsRow.lt hown k hk).1⟩
  unfold OwnMr
  rw [List.length_append, cellsM_snoc]
  exact h2
/-- A number brought between nothing and h. -/
theorem within0_any (n : Int) (h : Nat) (hh : h ≤ 4294967296) (w : World) :
    Calls Tryd.prog 25 #[.int .i64 n, .int .i64 0, .int .i64 (h : Nat)] w fun e w' => (∃ k : Nat, k ≤ h ∧ e = .returned (.int .i64 k)) ∧ w' = w := by
  have h1 : ((h : Int) + 1 == 0) = false := by simp; omega
  have t1 : n.tmod ((h : Int) + 1) < (h : Int) + 1 := Int.tmod_lt_of_pos _ (by omega)
  have t2 : -((h : Int) + 1) < n.tmod ((h : Int) + 1) := by
    have := Int.lt_tmod_of_pos n (b := (h : Int) + 1) (by omega)
    omega
  by_cases hp : n.tmod ((h : Int) + 1) < 0
  · go_enter Tryd.func25, Tryd.ntmps25
    go_wp2
    go_ret
    exact ⟨⟨(n.tmod ((h : Int) + 1) + h + 1).toNat, by omega, by congr 2; simp; omega⟩, rfl⟩
  · have hp' : 0 ≤ n.tmod ((h : Int) + 1) := by omega
    clear hp
    go_enter Tryd.func25, Tryd.ntmps25
    go_wp2
    go_ret
    exact ⟨⟨(n.tmod ((h : Int) + 1)).toNat, by omega, by congr 2; simp; omega⟩, rfl⟩
theorem infoI : (Tryd.prog.info? 3).map (fun i => (i.zero, i.size, i.bytes)) = some (some (.int .i64 0), 1, 8) := by kernel_rfl
theorem run_makeI (u : World) (n : Nat) (hn : n ≤ 4294967296) : (Instr.makeSlice 60 (.int .i64 (n : Nat)) (.int .i64 (n : Nat))).run Tryd.prog u = .ok (.slice (some ⟨u.heap.size, 0, none⟩) n n) (u.alloc (.cells ((List.replicate n (0 : Int)).map fun x => Value.int .i64 x).toArray 3)) := by
  obtain ⟨i0, hi, hz0, hz1, hz2⟩ := info_parts infoI
  have h := run_make (P := Tryd.prog) u 60 3 i0 _ Tryd.underlying60 hi hz0 .i64 .i64 (n : Int) (n : Int) (by omega) (Int.le_refl _) (by rw [hz2]; omega) (by omega)
  rw [hz1] at h
  have e : ((n : Int)).toNat = n := by omega
  rw [e] at h
  have e2 : ((List.replicate n (0 : Int)).map fun x => Value.int .i64 x).toArray = madeCells (Value.int .i64 0).cells (n * 1) := by
    apply Array.ext
    · simp [madeCells]
    · intro i h1 h2
      simp [madeCells, Value.cells, Nat.mod_one]
  rw [e2]
  exact h
theorem run_makeW (u : World) (n : Nat) (hn : n ≤ 4294967296) : (Instr.makeSlice 38 (.int .i64 (n : Nat)) (.int .i64 (n : Nat))).run Tryd.prog u = .ok (.slice (some ⟨u.heap.size, 0, none⟩) n n) (u.alloc (.cells (cellsW (List.replicate n ⟨#[]⟩)).toArray 9)) := by
  obtain ⟨i0, hi, hz0, hz1, hz2⟩ := info_parts infoW
  have h := run_make (P := Tryd.prog) u 38 9 i0 _ Tryd.underlying38 hi hz0 .i64 .i64 (n : Int) (n : Int) (by omega) (Int.le_refl _) (by rw [hz2]; omega) (by omega)
  rw [hz1] at h
  have e : ((n : Int)).toNat = n := by omega
  rw [e] at h
  rw [← madeW]
  exact h
end Go.Proofs.YtlnebbciefdpoaaDoor
