import Derived.Test.YtonbfcpbgkpbaaaGreatDoorJ0
import Derived.Test.YtonbfcpbgkpbaaaGreatDoorRows
import Derived.WalkKit
import Derived.ProofKit
import Derived.Below
import Derived.OpenShut
import Derived.WalkSpells
import Derived.WalkLawsBesides
import Derived.Deep.QuietTactic
import Derived.BigQuiet
import Derived.Laws.StructEq
import Derived.Lib.SmallJoins
import Derived.Laws.CopyOwn
import Derived.Laws.MakeOwn
import Derived.Laws.OwnMore
import Derived.Deep.DeepMust
import Derived.Lib.UnsafeStr
import Derived.Lib.BufferWrite
import Derived.Test.YtonbfcpbgkpbaaaGreatDoorProg
import Derived.WalkMore
import Derived.Lib.Walk
import Derived.Lib.Strings
import Derived.Lib.Bytealg
import Derived.Lib.ConvBytes
import Derived.Lib.Hide
section
/- Lists in memory; tesserakeep.Same: its contract. -/
namespace Go.Proofs.YtonbfcpbgkpbaaaGreatDoor
open Go.RowKit Go.Sort Go.Joins
set_option linter.unusedVariables false
/-- A span's two cells. -/
def SpAt (w : World) (b off : Nat) (x : Sp) : Prop := w.cell? ⟨b, off, none⟩ = some (.int .i32 x.lo) ∧ w.cell? ⟨b, off + 1, none⟩ = some (.int .i32 x.hi)
theorem SpAt.below {w w' : World} {b off : Nat} {x : Sp} (h : SpAt w b off x) (hb : Below w.heap.size w w') : SpAt w' b off x :=
  ⟨(hb.cell (World.block_lt_of_cell? w _ h.1)).trans h.1, (hb.cell (World.block_lt_of_cell? w _ h.2)).trans h.2⟩
/-- The slice that begins at a holds the spans l. -/
def SPS (w : World) (a : Option Addr) (l : List Sp) : Prop :=
  l = [] ∨ ∃ b off, a = some ⟨b, off, none⟩ ∧ ∀ i x, l[i]? = some x → SpAt w b (off + i * 2) x
theorem SPS.below {w w' : World} {a : Option Addr} {l : List Sp} (h : SPS w a l) (hb : Below w.heap.size w w') : SPS w' a l := by
  rcases h with h | ⟨b, off, rfl, hc⟩
  · exact .inl h
  · exact .inr ⟨b, off, rfl, fun i x hx => (hc i x hx).below hb⟩
theorem cell_alloc_s {w : World} {a : Addr} {v : Value} (h : w.cell? a = some v) (o : Obj) : (w.alloc o).cell? a = some v :=
  (((Below.refl w.heap.size w).alloc (Nat.le_refl _) o).cell (World.block_lt_of_cell? w _ h)).trans h
def fLo : Field := Field.mk "Lo" 21 0 false "" "" 0
def fHi : Field := Field.mk "Hi" 21 1 false "" "" 4
theorem fields26 : Tryz.prog.fieldsOf 41 = #[fLo, fHi] := by kernel_rfl
theorem und26 : Tryz.prog.underlying 41 = some (.struct #[fLo, fHi]) := by kernel_rfl
theorem held26 : Tryz.prog.stoodInHeld 41 = false := by kernel_rfl
def spEq (x y : Sp) : Bool := x.lo == y.lo && x.hi == y.hi
theorem equal_sp (a b c d : Int) (W : World) : (Op.equalIn 10000 41 (.agg #[.int .i32 a, .int .i32 b]) (.agg #[.int .i32 c, .int .i32 d])).run Tryz.prog W = .ok (a == c && b == d) W := by
  rw [run_equalIn_agg W 9999 41 _ _ (by rw [fields26]; exact und26) held26, fields26]
  simp [go_sem, Op.eqFields, fLo, fHi, part]
  by_cases h1 : a = c
  · by_cases h2 : b = d
    · simp [h1, h2]
    · simp [h1, h2]
  · simp [h1]
theorem neq_sp (x y : Sp) (v : Bool) (h : (!spEq x y) = v) (W : World) : (binOp BinOp.neq 41 (.agg #[.int .i32 x.lo, .int .i32 x.hi]) (.agg #[.int .i32 y.lo, .int .i32 y.hi])).run Tryz.prog W = .ok (.bool v) W := by
  rw [run_neq_struct, equal_sp, ← h]
  rfl
theorem eqIn_sp (x y : Sp) (v : Bool) (h : spEq x y = v) (W : World) : (Op.equalIn 10000 41 (.agg #[.int .i32 x.lo, .int .i32 x.hi]) (.agg #[.int .i32 y.lo, .int .i32 y.hi])).run Tryz.prog W = .ok v W := by
  rw [equal_sp, ← h]
  rfl
theorem spEq_self (x : Sp) : spEq x x = true := by simp [spEq]
/-- A list's cells. -/
def cellsS (l : List Sp) : List Value := l.flatMap fun x => [.int .i32 x.lo, .int .i32 x.hi]
theorem cellsS_length (l : List Sp) : (cellsS l).length = l.length * 2 := by
  induction l with
  | nil => rfl
  | cons x l ih => simp only [cellsS, List.flatMap_cons, List.length_append, List.length_cons] at ih ⊢; rw [ih]; simp; omega
theorem cellsS_get (l : List Sp) (i : Nat) (x : Sp) (h : l[i]? = some x) : (cellsS l)[i * 2]? = some (.int .i32 x.lo) ∧ (cellsS l)[i * 2 + 1]? = some (.int .i32 x.hi) := by
  induction l generalizing i with
  | nil => simp at h
  | cons y l ih =>
    cases i with
    | zero =>
      have : y = x := by simpa using h
      subst this
      exact ⟨rfl, rfl⟩
    | succ i =>
      have := ih i (by simpa using h)
      have e : cellsS (y :: l) = .int .i32 y.lo :: .int .i32 y.hi :: cellsS l := rfl
      rw [e, show (i + 1) * 2 = i * 2 + 1 + 1 by omega, show i * 2 + 1 + 1 + 1 = i * 2 + 1 + 1 + 1 from rfl]
      simpa using this
theorem SPS.of_block {w : World} {g : Nat} {l r : List Sp} {t : TypeId} {fr : Nat × Nat} (h : w.heap[g]? = some (.cells (cellsS (l ++ r)).toArray t fr)) : SPS w (some ⟨g, 0, none⟩) l := by
  refine .inr ⟨g, 0, rfl, fun i x hx => ?_⟩
  have hx' : (l ++ r)[i]? = some x := by
    rw [List.getElem?_append_left (List.getElem?_eq_some_iff.1 hx).1]; exact hx
  obtain ⟨h0, h1⟩ := cellsS_get _ _ _ hx'
  refine ⟨?_, ?_⟩ <;> rw [cell_of_block h, Nat.zero_add] <;> simpa
theorem SPS.new (w : World) (l : List Sp) (t : TypeId) : SPS (w.alloc (.cells (cellsS l).toArray t)) (some ⟨w.heap.size, 0, none⟩) l :=
  SPS.of_block (r := []) (by rw [List.append_nil]; exact heap_alloc_new _ _)
/-- No span but those from lo on, m of them, can hold r. -/
def Left (l : List Sp) (r : Int) (lo m : Nat) : Prop := ∀ (i : Nat) (x : Sp), l[i]? = some x → (i < lo ∨ lo + m ≤ i) → ¬ (x.lo ≤ r ∧ r ≤ x.hi)
/-- The slice that begins at a holds the words l. -/
def WSP (w : World) (a : Option Addr) (l : List ByteArray) : Prop :=
  l = [] ∨ ∃ b off, a = some ⟨b, off, none⟩ ∧ ∀ i x, l[i]? = some x → w.cell? ⟨b, off + i, none⟩ = some (.string x)
theorem WSP.below {w w' : World} {a : Option Addr} {l : List ByteArray} (h : WSP w a l) (hb : Below w.heap.size w w') : WSP w' a l := by
  rcases h with h | ⟨b, off, rfl, hc⟩
  · exact .inl h
  · exact .inr ⟨b, off, rfl, fun i x hx => (hb.cell (World.block_lt_of_cell? w _ (hc i x hx))).trans (hc i x hx)⟩
/-- A merge's three cells. -/
def MgAt (w : World) (b off : Nat) (x : Mg) : Prop := w.cell? ⟨b, off, none⟩ = some (.int .i64 x.l) ∧ w.cell? ⟨b, off + 1, none⟩ = some (.int .i64 x.r) ∧ w.cell? ⟨b, off + 2, none⟩ = some (.int .i64 x.i)
theorem MgAt.below {w w' : World} {b off : Nat} {x : Mg} (h : MgAt w b off x) (hb : Below w.heap.size w w') : MgAt w' b off x :=
  ⟨(hb.cell (World.block_lt_of_cell? w _ h.1)).trans h.1, (hb.cell (World.block_lt_of_cell? w _ h.2.1)).trans h.2.1, (hb.cell (World.block_lt_of_cell? w _ h.2.2)).trans h.2.2⟩
/-- The slice that begins at a holds the merges l. -/
def MSP (w : World) (a : Option Addr) (l : List Mg) : Prop :=
  l = [] ∨ ∃ b off, a = some ⟨b, off, none⟩ ∧ ∀ i x, l[i]? = some x → MgAt w b (off + i * 3) x
theorem MSP.below {w w' : World} {a : Option Addr} {l : List Mg} (h : MSP w a l) (hb : Below w.heap.size w w') : MSP w' a l := by
  rcases h with h | ⟨b, off, rfl, hc⟩
  · exact .inl h
  · exact .inr ⟨b, off, rfl, fun i x hx => (hc i x hx).below hb⟩
/-- A block that holds data. -/
def DBox (w : World) (z : Nat) (v0 v1 v2 v3 v4 : Value) : Prop := w.heap[z]? = some (.cells #[v0, v1, v2, v3, v4] 26 (0, 0))
theorem DBox.new (w : World) (v0 v1 v2 v3 v4 : Value) : DBox (w.alloc (.cells #[v0, v1, v2, v3, v4] 26)) w.heap.size v0 v1 v2 v3 v4 := heap_alloc_new _ _
theorem DBox.lt {w : World} {z : Nat} {v0 v1 v2 v3 v4 : Value} (h : DBox w z v0 v1 v2 v3 v4) : z < w.heap.size := (Array.getElem?_eq_some_iff.1 h).1
theorem DBox.below {w w' : World} {z B : Nat} {v0 v1 v2 v3 v4 : Value} (h : DBox w z v0 v1 v2 v3 v4) (hb : Below B w w') (hz : z < B) : DBox w' z v0 v1 v2 v3 v4 := (hb.block z hz).trans h
theorem DBox.c0 {w : World} {z : Nat} {v0 v1 v2 v3 v4 : Value} (h : DBox w z v0 v1 v2 v3 v4) : w.cell? ⟨z, 0, none⟩ = some v0 := cell_of_block h 0
theorem DBox.c1 {w : World} {z : Nat} {v0 v1 v2 v3 v4 : Value} (h : DBox w z v0 v1 v2 v3 v4) : w.cell? ⟨z, 1, none⟩ = some v1 := cell_of_block h 1
theorem DBox.c2 {w : World} {z : Nat} {v0 v1 v2 v3 v4 : Value} (h : DBox w z v0 v1 v2 v3 v4) : w.cell? ⟨z, 2, none⟩ = some v2 := cell_of_block h 2
theorem DBox.c3 {w : World} {z : Nat} {v0 v1 v2 v3 v4 : Value} (h : DBox w z v0 v1 v2 v3 v4) : w.cell? ⟨z, 3, none⟩ = some v3 := cell_of_block h 3
theorem DBox.c4 {w : World} {z : Nat} {v0 v1 v2 v3 v4 : Value} (h : DBox w z v0 v1 v2 v3 v4) : w.cell? ⟨z, 4, none⟩ = some v4 := cell_of_block h 4
theorem box_below (w : World) (o : Obj) : Below w.heap.size w (w.alloc o) := (Below.refl _ _).alloc (Nat.le_refl _) _
theorem SPS.cells {w : World} {x : Addr} {l : List Sp} (h : SPS w (some x) l) : ∀ j u, (cellsS l)[j]? = some u → w.cell? (x.add j) = some u := by
  intro j u hu
  rcases h with rfl | ⟨b, off, hx, hc⟩
  · simp [cellsS] at hu
  · obtain rfl := Option.some.inj hx
    have hj : j < (cellsS l).length := (List.getElem?_eq_some_iff.1 hu).1
    rw [cellsS_length] at hj
    have hi : l[j / 2]? = some l[j / 2] := List.getElem?_eq_getElem (by omega)
    obtain ⟨g0, g1⟩ := cellsS_get _ _ _ hi
    obtain ⟨c0, c1⟩ := hc _ _ hi
    rw [Go.WideShapes.add_plain]
    rcases Nat.mod_two_eq_zero_or_one j with e | e
    · have ej : j = j / 2 * 2 := by omega
      rw [ej, g0] at hu
      rw [ej, c0]
      exact hu
    · have ej : j = j / 2 * 2 + 1 := by omega
      rw [ej, g1] at hu
      rw [ej, ← Nat.add_assoc, c1]
      exact hu
set_option maxHeartbeats 800000 in
/-- Of two slices that hold the same spans, Same says so. -/
theorem same_any (a b : Option Addr) (ca cb : Nat) (l : List Sp) (w : World) (hlen : l.length ≤ 9223372036854775807) (ha : SPS w a l) (hb : SPS w b l) :
    Calls Tryz.prog 44 #[.slice a l.length ca, .slice b l.length cb] w fun e w' => e = .returned (.bool true) ∧ Below w.heap.size w w' := by
  obtain ⟨n, hn⟩ : ∃ n, n = l.length := ⟨_, rfl⟩
  have HN : Hid (n = l.length) := hn
  rw [← hn] at hlen ⊢
  clear hn
  have hne : ((n : Int) != (n : Int)) = false := by simp
  go_enter Tryz.func44, Tryz.ntmps44
  go_wp2
  go_loopw [5] (fun i wr => ∃ k : Nat, k ≤ n ∧ i = .int .i64 k ∧ Below w.heap.size w wr) (fun i _ => n - (intOf i).toNat)
  case atStart => exact ⟨0, Nat.zero_le _, rfl, Below.refl _ _⟩
  case round =>
    obtain ⟨k, hk, rfl, hbr⟩ := hrel
    by_cases hlt : k < n
    · have hkl : k < l.length := by rw [← HN.out]; exact hlt
      have hnil : l ≠ [] := fun e => by rw [e] at hkl; simp at hkl
      rcases ha with h | ⟨ga, oa, rfl, ha⟩
      · exact absurd h hnil
      rcases hb with h | ⟨gb, ob, rfl, hb⟩
      · exact absurd h hnil
      obtain ⟨x, hx⟩ : ∃ x, l[k]? = some x := ⟨l[k], List.getElem?_eq_getElem hkl⟩
      obtain ⟨a0, a1⟩ := (ha k x hx).below hbr
      obtain ⟨b0, b1⟩ := (hb k x hx).below hbr
      have HE := eqIn_sp x x true (spEq_self x)
      have HF := neq_sp x x false (by rw [spEq_self]; rfl)
      clear ha hb hnil hkl hx
      go_wp2_with fail
      go_quiet (fail)
      go_wp2_with fail
      exact ⟨⟨k + 1, by omega, by go_num, below_drewN hbr nq⟩, by simp only [intOf]; omega⟩
    · have hkn : k = n := by omega
      subst hkn
      go_wp2_with fail
      go_ret
      exact ⟨rfl, hbr⟩
/-- The cells of words. -/
def cellsW (l : List ByteArray) : List Value := l.map Value.string
theorem cellsW_length (l : List ByteArray) : (cellsW l).length = l.length * 1 := by simp [cellsW]
theorem cellsW_get {l : List ByteArray} {i : Nat} {x : ByteArray} (h : l[i]? = some x) : (cellsW l)[i]? = some (.string x) := by simp [cellsW, h]
/-- The cells of merges. -/
def cellsM (l : List Mg) : List Value := l.flatMap fun x => [.int .i64 x.l, .int .i64 x.r, .int .i64 x.i]
theorem cellsM_length (l : List Mg) : (cellsM l).length = l.length * 3 := by
  induction l with
  | nil => rfl
  | cons x l ih => simp only [cellsM, List.flatMap_cons, List.length_append, List.length_cons] at ih ⊢; rw [ih]; simp; omega
theorem cellsM_get (l : List Mg) (i : Nat) (x : Mg) (h : l[i]? = some x) : (cellsM l)[i * 3]? = some (.int .i64 x.l) ∧ (cellsM l)[i * 3 + 1]? = some (.int .i64 x.r) ∧ (cellsM l)[i * 3 + 2]? = some (.int .i64 x.i) := by
  induction l generalizing i with
  | nil => simp at h
  | cons y l ih =>
    cases i with
    | zero =>
      have : y = x := by simpa using h
      subst this
      exact ⟨rfl, rfl, rfl⟩
    | succ i =>
      have := ih i (by simpa using h)
      have e : cellsM (y :: l) = .int .i64 y.l :: .int .i64 y.r :: .int .i64 y.i :: cellsM l := rfl
      rw [e, show (i + 1) * 3 = i * 3 + 1 + 1 + 1 by omega, show i * 3 + 1 + 1 + 1 + 1 = (i * 3 + 1) + 1 + 1 + 1 from rfl, show i * 3 + 1 + 1 + 1 + 2 = (i * 3 + 2) + 1 + 1 + 1 from rfl]
      simpa using this
theorem WSP.cells {w : World} {x : Addr} {l : List ByteArray} (h : WSP w (some x) l) : ∀ j u, (cellsW l)[j]? = some u → w.cell? (x.add j) = some u := by
  intro j u hu
  rcases h with rfl | ⟨b, off, hx, hc⟩
  · simp [cellsW] at hu
  · obtain rfl := Option.some.inj hx
    have hj : j < l.length := by have := (List.getElem?_eq_some_iff.1 hu).1; rw [cellsW_length] at this; omega
    have hi : l[j]? = some l[j] := List.getElem?_eq_getElem hj
    rw [cellsW_get hi] at hu
    rw [Go.WideShapes.add_plain, hc j _ hi]
    exact hu
theorem MSP.cells {w : World} {x : Addr} {l : List Mg} (h : MSP w (some x) l) : ∀ j u, (cellsM l)[j]? = some u → w.cell? (x.add j) = some u := by
  intro j u hu
  rcases h with rfl | ⟨b, off, hx, hc⟩
  · simp [cellsM] at hu
  · obtain rfl := Option.some.inj hx
    have hj : j < (cellsM l).length := (List.getElem?_eq_some_iff.1 hu).1
    rw [cellsM_length] at hj
    have hi : l[j / 3]? = some l[j / 3] := List.getElem?_eq_getElem (by omega)
    obtain ⟨g0, g1, g2⟩ := cellsM_get _ _ _ hi
    obtain ⟨c0, c1, c2⟩ := hc _ _ hi
    rw [Go.WideShapes.add_plain]
    have h3 : j % 3 = 0 ∨ j % 3 = 1 ∨ j % 3 = 2 := by omega
    rcases h3 with e | e | e
    · have ej : j = j / 3 * 3 := by omega
      rw [ej, g0] at hu
      rw [ej, c0]
      exact hu
    · have ej : j = j / 3 * 3 + 1 := by omega
      rw [ej, g1] at hu
      rw [ej, ← Nat.add_assoc, c1]
      exact hu
    · have ej : j = j / 3 * 3 + 2 := by omega
      rw [ej, g2] at hu
      rw [ej, ← Nat.add_assoc, c2]
      exact hu
def But (b B : Nat) (W W' : World) : Prop := W'.os = W.os ∧ W'.tape = W.tape ∧ W'.output = W.output ∧ W.heap.size ≤ W'.heap.size ∧ ∀ k, k < B → k ≠ b → W'.heap[k]? = W.heap[k]?
theorem But.refl (b B : Nat) (W : World) : But b B W W := ⟨rfl, rfl, rfl, Nat.le_refl _, fun _ _ _ => rfl⟩
theorem But.of_below {b B : Nat} {W W' : World} (h : Below B W W') : But b B W W' := ⟨h.os, h.tape, h.output, h.size, fun k hk _ => h.block k hk⟩
theorem But.trans {b B : Nat} {X Y Z : World} (h : But b B X Y) (k : But b B Y Z) : But b B X Z := ⟨k.1.trans h.1, k.2.1.trans h.2.1, k.2.2.1.trans h.2.2.1, Nat.le_trans h.2.2.2.1 k.2.2.2.1, fun i hi hb => (k.2.2.2.2 i hi hb).trans (h.2.2.2.2 i hi hb)⟩
theorem But.setCell {b B : Nat} {W W' : World} (h : But b B W W') (j : Nat) (v : Value) : But b B W (W'.setCell ⟨b, j, none⟩ v) := ⟨h.1, h.2.1, h.2.2.1, by simpa using h.2.2.2.1, fun k hk hb => (Below.heap_setCell _ _ _ k hb).trans (h.2.2.2.2 k hk hb)⟩
theorem But.below {b B B' : Nat} {W W' : World} (h : But b B W W') (hB : B' ≤ B) (hb : B' ≤ b) : Below B' W W' := ⟨h.1, h.2.1, h.2.2.1, h.2.2.2.1, fun k hk => h.2.2.2.2 k (by omega) (by omega)⟩
theorem But.size {b B : Nat} {W W' : World} (h : But b B W W') : W.heap.size ≤ W'.heap.size := h.2.2.2.1
theorem But.mono {b B B' : Nat} {W W' : World} (h : But b B W W') (hB : B' ≤ B) : But b B' W W' := ⟨h.1, h.2.1, h.2.2.1, h.2.2.2.1, fun k hk hb => h.2.2.2.2 k (by omega) hb⟩
theorem But.above {b B : Nat} {W W' : World} (h : But b B W W') {p : Addr} (hp : B ≤ p.block) (v : Value) : But b B W (W'.setCell p v) := ⟨h.1, h.2.1, h.2.2.1, by simpa using h.2.2.2.1, fun k hk hb => (Below.heap_setCell _ _ _ k (by omega)).trans (h.2.2.2.2 k hk hb)⟩
theorem WSP.new (w : World) (l : List ByteArray) (t : TypeId) : WSP (w.alloc (.cells (cellsW l).toArray t)) (some ⟨w.heap.size, 0, none⟩) l := by
  refine .inr ⟨w.heap.size, 0, rfl, fun i x hx => ?_⟩
  rw [cell_of_block (heap_alloc_new _ _), Nat.zero_add]
  simpa using cellsW_get hx
theorem MSP.new (w : World) (l : List Mg) (t : TypeId) : MSP (w.alloc (.cells (cellsM l).toArray t)) (some ⟨w.heap.size, 0, none⟩) l := by
  refine .inr ⟨w.heap.size, 0, rfl, fun i x hx => ?_⟩
  obtain ⟨h0, h1, h2⟩ := cellsM_get l i x hx
  unfold MgAt
  rw [cell_of_block (heap_alloc_new _ _), cell_of_block (heap_alloc_new _ _), cell_of_block (heap_alloc_new _ _), Nat.zero_add]
  exact ⟨by simpa using h0, by simpa using h1, by simpa using h2⟩
set_option maxHeartbeats 800000 in
/-- Of two slices that hold the same words, Same says so. -/
theorem sameW_any (a b : Option Addr) (ca cb : Nat) (l : List ByteArray) (w : World) (hlen : l.length ≤ 9223372036854775807) (ha : WSP w a l) (hb : WSP w b l) :
    Calls Tryz.prog 42 #[.slice a l.length ca, .slice b l.length cb] w fun e w' => e = .returned (.bool true) ∧ Below w.heap.size w w' := by
  obtain ⟨n, hn⟩ : ∃ n, n = l.length := ⟨_, rfl⟩
  have HN : Hid (n = l.length) := hn
  rw [← hn] at hlen ⊢
  clear hn
  have hne : ((n : Int) != (n : Int)) = false := by simp
  go_enter Tryz.func42, Tryz.ntmps42
  go_wp2
  go_loopw [5] (fun i wr => ∃ k : Nat, k ≤ n ∧ i = .int .i64 k ∧ Below w.heap.size w wr) (fun i _ => n - (intOf i).toNat)
  case atStart => exact ⟨0, Nat.zero_le _, rfl, Below.refl _ _⟩
  case round =>
    obtain ⟨k, hk, rfl, hbr⟩ := hrel
    by_cases hlt : k < n
    · have hkl : k < l.length := by rw [← HN.out]; exact hlt
      have hnil : l ≠ [] := fun e => by rw [e] at hkl; simp at hkl
      rcases ha with h | ⟨ga, oa, rfl, ha⟩
      · exact absurd h hnil
      rcases hb with h | ⟨gb, ob, rfl, hb⟩
      · exact absurd h hnil
      obtain ⟨x, hx⟩ : ∃ x, l[k]? = some x := ⟨l[k], List.getElem?_eq_getElem hkl⟩
      have a0 := (hbr.cell (World.block_lt_of_cell? w _ (ha k x hx))).trans (ha k x hx)
      have b0 := (hbr.cell (World.block_lt_of_cell? w _ (hb k x hx))).trans (hb k x hx)
      have HE : (x.toList == x.toList) = true := by simp
      have HF : (x.toList != x.toList) = false := by simp
      clear ha hb hnil hkl hx
      go_wp2_with fail
      go_quiet (fail)
      go_wp2_with fail
      exact ⟨⟨k + 1, by omega, by go_num, below_drewN hbr nq⟩, by simp only [intOf]; omega⟩
    · have hkn : k = n := by omega
      subst hkn
      go_wp2_with fail
      go_ret
      exact ⟨rfl, hbr⟩
theorem MgAt.new (w : World) (m : Mg) (t : TypeId) : MgAt (w.alloc (.cells #[.int .i64 m.l, .int .i64 m.r, .int .i64 m.i] t)) w.heap.size 0 m := ⟨by simp [go_sem], by simp [go_sem], by simp [go_sem]⟩
def gL : Field := Field.mk "Left" 3 0 false "" "" 0
def gR : Field := Field.mk "Right" 3 1 false "" "" 8
def gI : Field := Field.mk "Id" 3 2 false "" "" 16
theorem fieldsM : Tryz.prog.fieldsOf 39 = #[gL, gR, gI] := by kernel_rfl
theorem undM : Tryz.prog.underlying 39 = some (.struct #[gL, gR, gI]) := by kernel_rfl
theorem heldM : Tryz.prog.stoodInHeld 39 = false := by kernel_rfl
def mgEq (x y : Mg) : Bool := x.l == y.l && (x.r == y.r && x.i == y.i)
theorem mgEq_self (x : Mg) : mgEq x x = true := by simp [mgEq]
theorem equal_mg (a b c a' b' c' : Int) (W : World) : (Op.equalIn 10000 39 (.agg #[.int .i64 a, .int .i64 b, .int .i64 c]) (.agg #[.int .i64 a', .int .i64 b', .int .i64 c'])).run Tryz.prog W = .ok (a == a' && (b == b' && c == c')) W := by
  rw [run_equalIn_agg W 9999 39 _ _ (by rw [fieldsM]; exact undM) heldM, fieldsM]
  simp [go_sem, Op.eqFields, gL, gR, gI, part]
  by_cases h1 : a = a'
  · by_cases h2 : b = b'
    · by_cases h3 : c = c'
      · simp [h1, h2, h3]
      · simp [h1, h2, h3]
    · simp [h1, h2]
  · simp [h1]
theorem neq_mg (x y : Mg) (v : Bool) (h : (!mgEq x y) = v) (W : World) : (binOp BinOp.neq 39 (.agg #[.int .i64 x.l, .int .i64 x.r, .int .i64 x.i]) (.agg #[.int .i64 y.l, .int .i64 y.r, .int .i64 y.i])).run Tryz.prog W = .ok (.bool v) W := by
  rw [run_neq_struct, equal_mg, ← h]
  rfl
theorem eqIn_mg (x y : Mg) (v : Bool) (h : mgEq x y = v) (W : World) : (Op.equalIn 10000 39 (.agg #[.int .i64 x.l, .int .i64 x.r, .int .i64 x.i]) (.agg #[.int .i64 y.l, .int .i64 y.r, .int .i64 y.i])).run Tryz.prog W = .ok v W := by
  rw [equal_mg, ← h]
  rfl
theorem MSP.of_block {w : World} {g : Nat} {l r : List Mg} {t : TypeId} {fr : Nat × Nat} (h : w.heap[g]? = some (.cells (cellsM (l ++ r)).toArray t fr)) : MSP w (some ⟨g, 0, none⟩) l := by
  refine .inr ⟨g, 0, rfl, fun i x hx => ?_⟩
  have hx' : (l ++ r)[i]? = some x := by
    rw [List.getElem?_append_left (List.getElem?_eq_some_iff.1 hx).1]; exact hx
  obtain ⟨h0, h1, h2⟩ := cellsM_get _ _ _ hx'
  unfold MgAt
  rw [cell_of_block h, cell_of_block h, cell_of_block h, Nat.zero_add]
  exact ⟨by simpa using h0, by simpa using h1, by simpa using h2⟩
set_option maxHeartbeats 800000 in
/-- Of two slices that hold the same merges, Same says so. -/
theorem sameM_any (a b : Option Addr) (ca cb : Nat) (l : List Mg) (w : World) (hlen : l.length ≤ 9223372036854775807) (ha : MSP w a l) (hb : MSP w b l) :
    Calls Tryz.prog 43 #[.slice a l.length ca, .slice b l.length cb] w fun e w' => e = .returned (.bool true) ∧ Below w.heap.size w w' := by
  obtain ⟨n, hn⟩ : ∃ n, n = l.length := ⟨_, rfl⟩
  have HN : Hid (n = l.length) := hn
  rw [← hn] at hlen ⊢
  clear hn
  have hne : ((n : Int) != (n : Int)) = false := by simp
  go_enter Tryz.func43, Tryz.ntmps43
  go_wp2
  go_loopw [5] (fun i wr => ∃ k : Nat, k ≤ n ∧ i = .int .i64 k ∧ Below w.heap.size w wr) (fun i _ => n - (intOf i).toNat)
  case atStart => exact ⟨0, Nat.zero_le _, rfl, Below.refl _ _⟩
  case round =>
    obtain ⟨k, hk, rfl, hbr⟩ := hrel
    by_cases hlt : k < n
    · have hkl : k < l.length := by rw [← HN.out]; exact hlt
      have hnil : l ≠ [] := fun e => by rw [e] at hkl; simp at hkl
      rcases ha with h | ⟨ga, oa, rfl, ha⟩
      · exact absurd h hnil
      rcases hb with h | ⟨gb, ob, rfl, hb⟩
      · exact absurd h hnil
      obtain ⟨x, hx⟩ : ∃ x, l[k]? = some x := ⟨l[k], List.getElem?_eq_getElem hkl⟩
      obtain ⟨a0, a1, a2⟩ := (ha k x hx).below hbr
      obtain ⟨b0, b1, b2⟩ := (hb k x hx).below hbr
      have HE := eqIn_mg x x true (mgEq_self x)
      have HF := neq_mg x x false (by rw [mgEq_self]; rfl)
      clear ha hb hnil hkl hx
      go_wp2_with fail
      go_quiet (fail)
      go_wp2_with fail
      exact ⟨⟨k + 1, by omega, by go_num, below_drewN hbr nq⟩, by simp only [intOf]; omega⟩
    · have hkn : k = n := by omega
      subst hkn
      go_wp2_with fail
      go_ret
      exact ⟨rfl, hbr⟩
set_option maxRecDepth 100000 in
set_option maxHeartbeats 2000000 in
theorem keepSame_any (a0 a1 a2 a3 a4 b0 b1 b2 b3 b4 : Option Addr) (c0 c1 c2 c3 c4 d0 d1 d2 d3 d4 : Nat) (ws : List ByteArray) (ms : List Mg) (A B C : List Sp) (w : World) (hn : ws.length ≤ 4611686018427387904 ∧ ms.length ≤ 4611686018427387904 ∧ A.length ≤ 4611686018427387904 ∧ B.length ≤ 4611686018427387904 ∧ C.length ≤ 4611686018427387904)
    (h0 : WSP w a0 ws) (h1 : MSP w a1 ms) (h2 : SPS w a2 A) (h3 : SPS w a3 B) (h4 : SPS w a4 C) (k0 : WSP w b0 ws) (k1 : MSP w b1 ms) (k2 : SPS w b2 A) (k3 : SPS w b3 B) (k4 : SPS w b4 C) :
    Calls Tryz.prog 32 #[.agg #[.slice a0 ws.length c0, .slice a1 ms.length c1, .slice a2 A.length c2, .slice a3 B.length c3, .slice a4 C.length c4], .agg #[.slice b0 ws.length d0, .slice b1 ms.length d1, .slice b2 A.length d2, .slice b3 B.length d3, .slice b4 C.length d4]] w fun e w' => e = .returned (.bool true) ∧ Below w.heap.size w w' := by
  have hX := DBox.new w (.slice a0 ws.length c0) (.slice a1 ms.length c1) (.slice a2 A.length c2) (.slice a3 B.length c3) (.slice a4 C.length c4)
  have bX := box_below w (.cells #[.slice a0 ws.length c0, .slice a1 ms.length c1, .slice a2 A.length c2, .slice a3 B.length c3, .slice a4 C.length c4] 26)
  obtain ⟨X, eX⟩ : ∃ X, X = w.alloc (.cells #[.slice a0 ws.length c0, .slice a1 ms.length c1, .slice a2 A.length c2, .slice a3 B.length c3, .slice a4 C.length c4] 26) := ⟨_, rfl⟩
  have sX : X.heap.size = w.heap.size + 1 := by rw [eX]; simp
  rw [← eX] at hX bX
  have hY := DBox.new X (.slice b0 ws.length d0) (.slice b1 ms.length d1) (.slice b2 A.length d2) (.slice b3 B.length d3) (.slice b4 C.length d4)
  have bY := box_below X (.cells #[.slice b0 ws.length d0, .slice b1 ms.length d1, .slice b2 A.length d2, .slice b3 B.length d3, .slice b4 C.length d4] 26)
  have hX2 := hX.below bY hX.lt
  have bZ := bX.trans (bY.mono bX.size)
  rw [sX] at hY
  obtain ⟨Y, eY⟩ : ∃ Y, Y = X.alloc (.cells #[.slice b0 ws.length d0, .slice b1 ms.length d1, .slice b2 A.length d2, .slice b3 B.length d3, .slice b4 C.length d4] 26) := ⟨_, rfl⟩
  rw [← eY] at hY bY hX2 bZ
  have e2 : (w.alloc (.cells #[.slice a0 ws.length c0, .slice a1 ms.length c1, .slice a2 A.length c2, .slice a3 B.length c3, .slice a4 C.length c4] 26)).alloc (.cells #[.slice b0 ws.length d0, .slice b1 ms.length d1, .slice b2 A.length d2, .slice b3 B.length d3, .slice b4 C.length d4] 26) = Y := by rw [eY, eX]
  have E2 : Hid (_ = Y) := e2
  have HX : Hid (DBox Y w.heap.size (.slice a0 ws.length c0) (.slice a1 ms.length c1) (.slice a2 A.length c2) (.slice a3 B.length c3) (.slice a4 C.length c4)) := hX2
  have HY : Hid (DBox Y (w.heap.size + 1) (.slice b0 ws.length d0) (.slice b1 ms.length d1) (.slice b2 A.length d2) (.slice b3 B.length d3) (.slice b4 C.length d4)) := hY
  have S0 := fun wx (hb : Below w.heap.size w wx) => sameW_any a0 b0 c0 d0 ws wx (by omega) (h0.below hb) (k0.below hb)
  have S1 := fun wx (hb : Below w.heap.size w wx) => sameM_any a1 b1 c1 d1 ms wx (by omega) (h1.below hb) (k1.below hb)
  have S2 := fun wx (hb : Below w.heap.size w wx) => same_any a2 b2 c2 d2 A wx (by omega) (h2.below hb) (k2.below hb)
  have S3 := fun wx (hb : Below w.heap.size w wx) => same_any a3 b3 c3 d3 B wx (by omega) (h3.below hb) (k3.below hb)
  have S4 := fun wx (hb : Below w.heap.size w wx) => same_any a4 b4 c4 d4 C wx (by omega) (h4.below hb) (k4.below hb)
  have u0 := cell_alloc_s hX.c0
  have u1 := cell_alloc_s hX.c1
  clear u0 u1 h0 h1 h2 h3 h4 k0 k1 k2 k3 k4 hX bX bY eY eX e2 hX2 hY sX
  go_enter Tryz.func32, Tryz.ntmps32
  go_wp2_with fail
  rw [E2.out]
  clear E2
  have go : ∀ wx, Below Y.heap.size Y wx → DBox wx w.heap.size (.slice a0 ws.length c0) (.slice a1 ms.length c1) (.slice a2 A.length c2) (.slice a3 B.length c3) (.slice a4 C.length c4) ∧ DBox wx (w.heap.size + 1) (.slice b0 ws.length d0) (.slice b1 ms.length d1) (.slice b2 A.length d2) (.slice b3 B.length d3) (.slice b4 C.length d4) := fun wx hb => ⟨HX.out.below hb HX.out.lt, HY.out.below hb HY.out.lt⟩
  have GO : Hid (∀ wx, Below Y.heap.size Y wx → DBox wx w.heap.size (.slice a0 ws.length c0) (.slice a1 ms.length c1) (.slice a2 A.length c2) (.slice a3 B.length c3) (.slice a4 C.length c4) ∧ DBox wx (w.heap.size + 1) (.slice b0 ws.length d0) (.slice b1 ms.length d1) (.slice b2 A.length d2) (.slice b3 B.length d3) (.slice b4 C.length d4)) := go
  clear go
  refine (S0 Y bZ).mono ?_
  rintro e w1 ⟨rfl, hb1⟩
  have B1 := hb1
  have t1 := (GO.out w1 B1).1.c1
  have t2 := (GO.out w1 B1).2.c1
  clear S0 hb1
  go_wp2_with fail
  refine (S1 w1 (bZ.trans (B1.mono bZ.size))).mono ?_
  rintro e w2 ⟨rfl, hb2⟩
  have B2 := B1.trans (hb2.mono B1.size)
  clear t1 t2 S1 hb2 B1
  have t1 := (GO.out w2 B2).1.c2
  have t2 := (GO.out w2 B2).2.c2
  go_wp2_with fail
  refine (S2 w2 (bZ.trans (B2.mono bZ.size))).mono ?_
  rintro e w3 ⟨rfl, hb3⟩
  have B3 := B2.trans (hb3.mono B2.size)
  clear t1 t2 S2 hb3 B2
  have t1 := (GO.out w3 B3).1.c3
  have t2 := (GO.out w3 B3).2.c3
  go_wp2_with fail
  refine (S3 w3 (bZ.trans (B3.mono bZ.size))).mono ?_
  rintro e w4 ⟨rfl, hb4⟩
  have B4 := B3.trans (hb4.mono B3.size)
  clear t1 t2 S3 hb4 B3
  have t1 := (GO.out w4 B4).1.c4
  have t2 := (GO.out w4 B4).2.c4
  go_wp2_with fail
  refine (S4 w4 (bZ.trans (B4.mono bZ.size))).mono ?_
  rintro e w5 ⟨rfl, hb5⟩
  have B5 := B4.trans (hb5.mono B4.size)
  clear t1 t2 S4 hb5 B4
  go_wp2_with fail
  go_ret
  exact ⟨rfl, bZ.trans (B5.mono bZ.size)⟩
end Go.Proofs.YtonbfcpbgkpbaaaGreatDoor
end
section
/- A scope with labels: what holds from a label on. utf.stands, utf.badByte: their contracts. -/
namespace Go.Proofs.YtonbfcpbgkpbaaaGreatDoor
open Go.RowKit
/-- From label l on, inside the scope of c, the run ends as Q says. -/
def On (P : Program) (c : Code) (Q : Exit → Act → World → Prop) (l : Nat) (a : Act) (w : World) : Prop :=
  ∃ rest, findLabel c l = some rest ∧ ∀ (b : Frame) (k : List Item) (cs : List Frame), ∃ e a' w', Q e a' w' ∧ Arrives P (lone (b.at a (.code rest :: .inScope c :: k)) cs w) b k cs e a' w'
/-- As Q; by a goto: as L says of its label. -/
def viaL (L : Nat → Act → World → Prop) (Q : Exit → Act → World → Prop) : Exit → Act → World → Prop
  | .goto l, a, w => L l a w
  | e, a, w => Q e a w
theorem viaL_goto (L : Nat → Act → World → Prop) (Q : Exit → Act → World → Prop) (l : Nat) (a : Act) (w : World) : viaL L Q (.goto l) a w = L l a w := rfl
theorem viaL_ret (L : Nat → Act → World → Prop) (Q : Exit → Act → World → Prop) (a : Act) (w : World) : viaL L Q .ret a w = Q .ret a w := rfl
theorem viaL_normal (L : Nat → Act → World → Prop) (Q : Exit → Act → World → Prop) (a : Act) (w : World) : viaL L Q .normal a w = Q .normal a w := rfl
theorem on_inner {P : Program} {c : Code} {Q : Exit → Act → World → Prop} {b : Frame} {k : List Item} {cs : List Frame} {x : Code} {a : Act} {w : World} (h : x.wp P (viaL (On P c Q) Q) a w) :
    ∃ e a' w', Q e a' w' ∧ Arrives P (lone (b.at a (.code x :: .inScope c :: k)) cs w) b k cs e a' w' := by
  obtain ⟨e, a₁, w₁, hq, harr⟩ := h b (.inScope c :: k) cs
  cases e with
  | normal => exact ⟨.normal, a₁, w₁, hq, Steps.trans harr (.one step_inScope)⟩
  | exit id => exact ⟨.exit id, a₁, w₁, hq, fun k' hk => harr k' (by simp [exitTo, hk])⟩
  | goto l =>
    obtain ⟨rest, hf, hr⟩ := hq
    obtain ⟨e₂, a₂, w₂, hq₂, harr₂⟩ := hr b k cs
    have hg : gotoIn l (.inScope c :: k) = some (.code rest :: .inScope c :: k) := by simp [gotoIn, hf]
    exact ⟨e₂, a₂, w₂, hq₂, .of_steps (harr _ hg) harr₂⟩
  | ret => exact ⟨_, a₁, w₁, hq, harr⟩
  | panic ch => exact ⟨_, a₁, w₁, hq, harr⟩
  | outgrown => exact ⟨_, a₁, w₁, hq, harr⟩
theorem on_enter {P : Program} {c : Code} {Q : Exit → Act → World → Prop} {a : Act} {w : World} (h : c.wp P (viaL (On P c Q) Q) a w) : (Code.scope c).wp P Q a w := by
  intro b k cs
  obtain ⟨e, a₁, w₁, hq, harr⟩ := on_inner (b := b) (k := k) (cs := cs) h
  exact ⟨e, a₁, w₁, hq, .of_steps (.one step_scope) harr⟩
theorem on_label {P : Program} {c rest : Code} {Q : Exit → Act → World → Prop} {l : Nat} {a : Act} {w : World} (hf : findLabel c l = some rest) (h : rest.wp P (viaL (On P c Q) Q) a w) : On P c Q l a w :=
  ⟨rest, hf, fun _ _ _ => on_inner h⟩
/-- A text's bytes. -/
abbrev tl (s : ByteArray) : List UInt8 := s.data.toList
theorem tl_len (s : ByteArray) : (tl s).length = s.size := by simp
set_option maxHeartbeats 400000 in
theorem stands_any (s : ByteArray) (i lo hi : Nat) (w : World) :
    Calls Tryz.prog 94 #[.string s, .int .i64 i, .int .u8 lo, .int .u8 hi] w fun e w' => e = .returned (.bool (stands (tl s) i lo hi)) ∧ w' = w := by
  unfold stands
  rw [tl_len]
  by_cases h3 : i < s.size
  · have hb : bt (tl s) i = (s[i]).toNat := by
      unfold bt
      rw [List.getD_eq_getElem?_getD, List.getElem?_eq_getElem (by simpa using h3)]
      rfl
    have hbb : (s[i]).toNat < 256 := UInt8.toNat_lt _
    rw [hb]
    have hd : decide (i < s.size) = true := by simpa using h3
    by_cases h4 : lo ≤ (s[i]).toNat
    · have hd4 : decide (lo ≤ (s[i]).toNat) = true := by simpa using h4
      by_cases h5 : (s[i]).toNat ≤ hi
      · have hd5 : decide ((s[i]).toNat ≤ hi) = true := by simpa using h5
        rw [hd, hd4, hd5]
        clear hd hd4 hd5 hb
        go_enter Tryz.func94, Tryz.ntmps94
        go_wp2
        go_ret
        exact ⟨rfl, rfl⟩
      · have hd5 : decide ((s[i]).toNat ≤ hi) = false := by simpa using h5
        rw [hd, hd4, hd5]
        clear hd hd4 hd5 hb
        go_enter Tryz.func94, Tryz.ntmps94
        go_wp2
        go_ret
        exact ⟨rfl, rfl⟩
    · have hd4 : decide (lo ≤ (s[i]).toNat) = false := by simpa using h4
      rw [hd, hd4]
      clear hd hd4 hb
      go_enter Tryz.func94, Tryz.ntmps94
      go_wp2
      go_ret
      exact ⟨rfl, rfl⟩
  · have hd : decide (i < s.size) = false := by simpa using h3
    rw [hd]
    clear hd
    go_enter Tryz.func94, Tryz.ntmps94
    go_wp2
    go_ret
    exact ⟨rfl, rfl⟩
end Go.Proofs.YtonbfcpbgkpbaaaGreatDoor
end
section
/- strings.IndexByte, HasPrefix, TrimPrefix; recipe's predicates of bytes: their contracts. -/
namespace Go.Proofs.YtonbfcpbgkpbaaaGreatDoor
open Go.RowKit
set_option linter.unusedVariables false
set_option maxRecDepth 100000
set_option maxHeartbeats 1000000 in
theorem liteIndex_any (s : ByteArray) (c : Int) (w : World) :
    Calls Tryz.prog 101 #[.string s, .int .u8 c] w fun e w' => e = .returned (.int .i64 (Lib.indexByte s.data.toList c.toNat.toUInt8)) ∧ w' = w := by
  go_enter Tryz.func101, Tryz.ntmps101
  go_wp2
  rw [run_callFunc_extern Tryz.func109 (by kernel_rfl) (by kernel_rfl) (by kernel_rfl) (e := Extern.BytealgIndexByte.indexByte) (by kernel_rfl), Lib.run_indexByteString]
  simp only [Result.andThen]
  rw [Oper.upon_value]
  go_wp2
  go_ret
  exact ⟨rfl, rfl⟩
theorem indexByte_any (s : ByteArray) (c : Int) (w : World) :
    Calls Tryz.prog 87 #[.string s, .int .u8 c] w fun e w' => e = .returned (.int .i64 (Lib.indexByte s.data.toList c.toNat.toUInt8)) ∧ w' = w := by
  go_enter Tryz.func87, Tryz.ntmps87
  go_wp2_with (go_at_call 101; refine (liteIndex_any _ _ _).mono ?_; rintro e w' ⟨rfl, rfl⟩)
  go_ret
  exact ⟨rfl, rfl⟩
/-- What is read at a place: -1 behind the end. -/
def hereI (l : List UInt8) (k : Nat) : Int := match l[k]? with
  | none => -1
  | some c => (c.toNat : Int)
def oneI (c : Int) (s : ByteArray) : Bool := !(c == -1) && decide (0 ≤ Lib.indexByte s.data.toList c.toNat.toUInt8)
theorem isOneOf_any (c : Int) (s : ByteArray) (hc : -1 ≤ c) (hc2 : c ≤ 255) (w : World) :
    Calls Tryz.prog 82 #[.int .i64 c, .string s] w fun e w' => e = .returned (.bool (oneI c s)) ∧ w' = w := by
  unfold oneI
  by_cases h : c = -1
  · subst h
    go_enter Tryz.func82, Tryz.ntmps82
    go_wp2_with fail
    go_ret
    exact ⟨rfl, rfl⟩
  · have h1 : (c == -1) = false := by simpa using h
    have h2 : (c != -1) = true := by simpa using h
    have h3 : 0 ≤ c := by omega
    rw [h1]
    go_enter Tryz.func82, Tryz.ntmps82
    go_wp2_with (go_at_call 87; refine (indexByte_any _ _ _).mono ?_; rintro e w' ⟨rfl, rfl⟩)
    go_ret
    exact ⟨rfl, rfl⟩
theorem isSmall_any (c : Int) (w : World) :
    Calls Tryz.prog 79 #[.int .i64 c] w fun e w' => e = .returned (.bool (decide (97 ≤ c) && decide (c ≤ 122))) ∧ w' = w := by
  by_cases h : 97 ≤ c
  · have h1 : decide (97 ≤ c) = true := decide_eq_true h
    rw [h1]
    go_enter Tryz.func79, Tryz.ntmps79
    go_wp2_with fail
    go_ret
    exact ⟨rfl, rfl⟩
  · have h1 : decide (97 ≤ c) = false := decide_eq_false h
    rw [h1]
    go_enter Tryz.func79, Tryz.ntmps79
    go_wp2_with fail
    go_ret
    exact ⟨rfl, rfl⟩
theorem isDigit_any (c : Int) (w : World) :
    Calls Tryz.prog 80 #[.int .i64 c] w fun e w' => e = .returned (.bool (decide (48 ≤ c) && decide (c ≤ 57))) ∧ w' = w := by
  by_cases h : 48 ≤ c
  · have h1 : decide (48 ≤ c) = true := decide_eq_true h
    rw [h1]
    go_enter Tryz.func80, Tryz.ntmps80
    go_wp2_with fail
    go_ret
    exact ⟨rfl, rfl⟩
  · have h1 : decide (48 ≤ c) = false := decide_eq_false h
    rw [h1]
    go_enter Tryz.func80, Tryz.ntmps80
    go_wp2_with fail
    go_ret
    exact ⟨rfl, rfl⟩
theorem isShown_any (c : Int) (w : World) :
    Calls Tryz.prog 33 #[.int .i64 c] w fun e w' => e = .returned (.bool (decide (32 ≤ c) && decide (c ≤ 126))) ∧ w' = w := by
  by_cases h : 32 ≤ c
  · have h1 : decide (32 ≤ c) = true := decide_eq_true h
    rw [h1]
    go_enter Tryz.func33, Tryz.ntmps33
    go_wp2_with fail
    go_ret
    exact ⟨rfl, rfl⟩
  · have h1 : decide (32 ≤ c) = false := decide_eq_false h
    rw [h1]
    go_enter Tryz.func33, Tryz.ntmps33
    go_wp2_with fail
    go_ret
    exact ⟨rfl, rfl⟩
def onI (c : Int) : Bool := (decide (97 ≤ c) && decide (c ≤ 122)) || (decide (65 ≤ c) && decide (c ≤ 90)) || (decide (48 ≤ c) && decide (c ≤ 57)) || (c == 95)
set_option maxHeartbeats 1000000 in
theorem goesOn_any (c : Int) (w : World) :
    Calls Tryz.prog 84 #[.int .i64 c] w fun e w' => e = .returned (.bool (onI c)) ∧ w' = w := by
  have H1 := fun wx => isSmall_any c wx
  have H2 := fun wx => isDigit_any c wx
  have HO : Hid (onI c = ((decide (97 ≤ c) && decide (c ≤ 122)) || (decide (65 ≤ c) && decide (c ≤ 90)) || (decide (48 ≤ c) && decide (c ≤ 57)) || (c == 95))) := rfl
  obtain ⟨bS, hS⟩ : ∃ b, b = (decide (97 ≤ c) && decide (c ≤ 122)) := ⟨_, rfl⟩
  obtain ⟨bD, hD⟩ : ∃ b, b = (decide (48 ≤ c) && decide (c ≤ 57)) := ⟨_, rfl⟩
  rw [← hS] at H1
  rw [← hD] at H2
  have HS := Lib.hid hS
  have HD := Lib.hid hD
  clear hS hD
  cases bS with
  | true =>
    go_enter Tryz.func84, Tryz.ntmps84
    go_wp2_with fail
    refine (H1 _).mono ?_
    rintro e w1 ⟨rfl, rfl⟩
    go_wp2_with fail
    go_ret
    exact ⟨by rw [HO.out, ← HS.out]; rfl, rfl⟩
  | false =>
    by_cases h1 : 65 ≤ c
    · by_cases h2 : c ≤ 90
      · have d1 : decide (65 ≤ c) = true := decide_eq_true h1
        have d2 : decide (c ≤ 90) = true := decide_eq_true h2
        have HB : Hid (onI c = true) := Lib.hid (by rw [HO.out, d1, d2]; simp)
        go_enter Tryz.func84, Tryz.ntmps84
        go_wp2_with fail
        refine (H1 _).mono ?_
        rintro e w1 ⟨rfl, rfl⟩
        go_wp2_with fail
        go_ret
        exact ⟨by rw [HB.out]; rfl, rfl⟩
      · have d1 : decide (65 ≤ c) = true := decide_eq_true h1
        have d2 : decide (c ≤ 90) = false := decide_eq_false h2
        have HB : Hid (onI c = (bD || (c == 95))) := Lib.hid (by rw [HO.out, d1, d2, ← HS.out, ← HD.out]; simp)
        cases bD with
        | true =>
          go_enter Tryz.func84, Tryz.ntmps84
          go_wp2_with fail
          refine (H1 _).mono ?_
          rintro e w1 ⟨rfl, rfl⟩
          go_wp2_with fail
          refine (H2 _).mono ?_
          rintro e w1 ⟨rfl, rfl⟩
          go_wp2_with fail
          go_ret
          exact ⟨by rw [HB.out]; rfl, rfl⟩
        | false =>
          go_enter Tryz.func84, Tryz.ntmps84
          go_wp2_with fail
          refine (H1 _).mono ?_
          rintro e w1 ⟨rfl, rfl⟩
          go_wp2_with fail
          refine (H2 _).mono ?_
          rintro e w1 ⟨rfl, rfl⟩
          go_wp2_with fail
          go_ret
          exact ⟨by rw [HB.out]; rfl, rfl⟩
    · have d1 : decide (65 ≤ c) = false := decide_eq_false h1
      have HB : Hid (onI c = (bD || (c == 95))) := Lib.hid (by rw [HO.out, d1, ← HS.out, ← HD.out]; simp)
      cases bD with
      | true =>
        go_enter Tryz.func84, Tryz.ntmps84
        go_wp2_with fail
        refine (H1 _).mono ?_
        rintro e w1 ⟨rfl, rfl⟩
        go_wp2_with fail
        refine (H2 _).mono ?_
        rintro e w1 ⟨rfl, rfl⟩
        go_wp2_with fail
        go_ret
        exact ⟨by rw [HB.out]; rfl, rfl⟩
      | false =>
        go_enter Tryz.func84, Tryz.ntmps84
        go_wp2_with fail
        refine (H1 _).mono ?_
        rintro e w1 ⟨rfl, rfl⟩
        go_wp2_with fail
        refine (H2 _).mono ?_
        rintro e w1 ⟨rfl, rfl⟩
        go_wp2_with fail
        go_ret
        exact ⟨by rw [HB.out]; rfl, rfl⟩
end Go.Proofs.YtonbfcpbgkpbaaaGreatDoor
end
section
/- recipe's digits, runes; strings.HasPrefix, TrimPrefix: their contracts. -/
namespace Go.Proofs.YtonbfcpbgkpbaaaGreatDoor
open Go.RowKit
set_option linter.unusedVariables false
set_option maxRecDepth 100000
def lowS : ByteArray := { data := #[48, 49, 50, 51, 52, 53, 54, 55, 56, 57, 97, 98, 99, 100, 101, 102] }
def capS : ByteArray := { data := #[48, 49, 50, 51, 52, 53, 54, 55, 56, 57, 65, 66, 67, 68, 69, 70] }
theorem low_all : ∀ n : Fin 256, Lib.indexByte lowS.data.toList (UInt8.ofNat n.val) = if lowB (UInt8.ofNat n.val) = true then (digV (UInt8.ofNat n.val) : Int) else -1 := by decide +kernel
theorem cap_all : ∀ n : Fin 256, Lib.indexByte capS.data.toList (UInt8.ofNat n.val) = if capB (UInt8.ofNat n.val) = true then (digV (UInt8.ofNat n.val) : Int) else -1 := by decide +kernel
theorem low_index (c : UInt8) : Lib.indexByte lowS.data.toList c = if lowB c = true then (digV c : Int) else -1 := by
  have := low_all ⟨c.toNat, UInt8.toNat_lt c⟩
  simpa using this
theorem cap_index (c : UInt8) : Lib.indexByte capS.data.toList c = if capB c = true then (digV c : Int) else -1 := by
  have := cap_all ⟨c.toNat, UInt8.toNat_lt c⟩
  simpa using this
theorem digV_all : ∀ n : Fin 256, (lowB (UInt8.ofNat n.val) = true ∨ capB (UInt8.ofNat n.val) = true) → digV (UInt8.ofNat n.val) < 16 := by decide +kernel
theorem digV_lt {c : UInt8} (h : lowB c = true ∨ capB c = true) : digV c < 16 := by
  have := digV_all ⟨c.toNat, UInt8.toNat_lt c⟩
  simp only [UInt8.ofNat_toNat] at this
  exact this h
theorem byte_back (c : UInt8) : ((c.toNat : Int)).toNat.toUInt8 = c := by simp
theorem index_low (c : UInt8) (h : lowB c = true) (w : World) :
    Calls Tryz.prog 87 #[.string { data := #[48, 49, 50, 51, 52, 53, 54, 55, 56, 57, 97, 98, 99, 100, 101, 102] }, .int .u8 (c.toNat : Int)] w fun e w' => e = .returned (.int .i64 (digV c : Int)) ∧ w' = w := by
  have := indexByte_any lowS (c.toNat : Int) w
  rw [byte_back, low_index, if_pos h] at this
  exact this
theorem index_cap (c : UInt8) (h : capB c = true) (w : World) :
    Calls Tryz.prog 87 #[.string { data := #[48, 49, 50, 51, 52, 53, 54, 55, 56, 57, 65, 66, 67, 68, 69, 70] }, .int .u8 (c.toNat : Int)] w fun e w' => e = .returned (.int .i64 (digV c : Int)) ∧ w' = w := by
  have := indexByte_any capS (c.toNat : Int) w
  rw [byte_back, cap_index, if_pos h] at this
  exact this
theorem oneI_low (c : UInt8) : oneI (c.toNat : Int) lowS = lowB c := by
  unfold oneI
  rw [byte_back, low_index]
  have : ((c.toNat : Int) == -1) = false := by simp
  rw [this]
  by_cases h : lowB c = true
  · rw [if_pos h, h]; simp
  · rw [if_neg h]; simp at h; rw [h]; rfl
theorem oneI_cap (c : UInt8) : oneI (c.toNat : Int) capS = capB c := by
  unfold oneI
  rw [byte_back, cap_index]
  have : ((c.toNat : Int) == -1) = false := by simp
  rw [this]
  by_cases h : capB c = true
  · rw [if_pos h, h]; simp
  · rw [if_neg h]; simp at h; rw [h]; rfl
def blankS : ByteArray := { data := #[9, 10, 13, 32] }
def signS : ByteArray := { data := #[123, 125, 43, 61] }
theorem blank_all : ∀ n : Fin 256, decide (0 ≤ Lib.indexByte blankS.data.toList (UInt8.ofNat n.val)) = blnkB (UInt8.ofNat n.val) := by decide +kernel
theorem sign_all : ∀ n : Fin 256, decide (0 ≤ Lib.indexByte signS.data.toList (UInt8.ofNat n.val)) = decide ((UInt8.ofNat n.val).toNat = 123 ∨ (UInt8.ofNat n.val).toNat = 125 ∨ (UInt8.ofNat n.val).toNat = 43 ∨ (UInt8.ofNat n.val).toNat = 61) := by decide +kernel
theorem oneI_blank (c : UInt8) : oneI (c.toNat : Int) blankS = blnkB c := by
  unfold oneI
  rw [byte_back]
  have := blank_all ⟨c.toNat, UInt8.toNat_lt c⟩
  simp only [UInt8.ofNat_toNat] at this
  rw [this]
  have : ((c.toNat : Int) == -1) = false := by simp
  rw [this]
  rfl
theorem oneI_sign (c : UInt8) : oneI (c.toNat : Int) signS = decide (c.toNat = 123 ∨ c.toNat = 125 ∨ c.toNat = 43 ∨ c.toNat = 61) := by
  unfold oneI
  rw [byte_back]
  have := sign_all ⟨c.toNat, UInt8.toNat_lt c⟩
  simp only [UInt8.ofNat_toNat] at this
  rw [this]
  have : ((c.toNat : Int) == -1) = false := by simp
  rw [this]
  rfl
theorem or_all : ∀ a b : Fin 16, bits BinOp.or IntKind.i64 (((a.val : Nat) : Int) * 16) ((b.val : Nat) : Int) = ((a.val * 16 + b.val : Nat) : Int) := by decide +kernel
theorem or_four {a b : Nat} (ha : a < 16) (hb : b < 16) : bits BinOp.or IntKind.i64 ((a : Int) * 16) (b : Int) = ((a * 16 + b : Nat) : Int) := or_all ⟨a, ha⟩ ⟨b, hb⟩
set_option maxHeartbeats 1000000 in
theorem byteOf_any (h c : UInt8) (hh : lowB h = true) (hc : lowB c = true) (w : World) :
    Calls Tryz.prog 97 #[.int .i64 (h.toNat : Int), .int .i64 (c.toNat : Int)] w fun e w' => e = .returned (.int .i64 ((byteV h c).toNat : Int)) ∧ w' = w := by
  have b1 : h.toNat < 256 := UInt8.toNat_lt _
  have b2 : c.toNat < 256 := UInt8.toNat_lt _
  have H1 := fun wx => index_low h hh wx
  have H2 := fun wx => index_low c hc wx
  have d1 := digV_lt (.inl hh)
  have d2 := digV_lt (.inl hc)
  go_enter Tryz.func97, Tryz.ntmps97
  go_wp2_with fail
  refine (H1 _).mono ?_
  rintro e w1 ⟨rfl, rfl⟩
  go_wp2_with fail
  refine (H2 _).mono ?_
  rintro e w1 ⟨rfl, rfl⟩
  go_wp2_with fail
  go_ret
  refine ⟨?_, rfl⟩
  have e : (byteV h c).toNat = digV h * 16 + digV c := by
    unfold byteV
    rw [UInt8.toNat_ofNat']
    omega
  rw [e, ← or_four d1 d2]
  rfl
end Go.Proofs.YtonbfcpbgkpbaaaGreatDoor
end
section
/- recipe's valueOf, isScalar, isRune; strings.HasPrefix, TrimPrefix; slices.Contains of texts: their contracts. -/
namespace Go.Proofs.YtonbfcpbgkpbaaaGreatDoor
open Go.RowKit Go.Joins
set_option linter.unusedVariables false
set_option maxRecDepth 100000
theorem valF_snoc (b n : Nat) (l : List UInt8) (c : UInt8) : valF b n (l ++ [c]) = valF b n l * b + digV c := by
  induction l generalizing n with
  | nil => rfl
  | cons x l ih => exact ih _
theorem valF_lt {b : Nat} (hb : b ≤ 16) : ∀ (l : List UInt8) (n : Nat), (∀ c ∈ l, capB c = true) → valF b n l + 1 ≤ (n + 1) * 16 ^ l.length := by
  intro l
  induction l with
  | nil => intro n _; simp [valF]
  | cons x l ih =>
    intro n h
    have h1 := ih (n * b + digV x) (fun c hc => h c (List.mem_cons_of_mem _ hc))
    have h2 := digV_lt (.inr (h x List.mem_cons_self))
    have h3 : n * b ≤ n * 16 := Nat.mul_le_mul_left _ hb
    have h4 : (n * b + digV x + 1) * 16 ^ l.length ≤ ((n + 1) * 16) * 16 ^ l.length := Nat.mul_le_mul_right _ (by omega)
    have h5 : (n + 1) * 16 ^ (x :: l).length = ((n + 1) * 16) * 16 ^ l.length := by rw [List.length_cons, Nat.pow_succ, Nat.mul_comm (16 ^ l.length) 16, Nat.mul_assoc]
    rw [h5]
    exact Nat.le_trans h1 h4
theorem valF_small {b : Nat} (hb : b ≤ 16) {l : List UInt8} (h : ∀ c ∈ l, capB c = true) (hl : l.length ≤ 10) : valF b 0 l < 1099511627776 := by
  have h1 := valF_lt hb l 0 h
  have h2 : 16 ^ l.length ≤ 16 ^ 10 := Nat.pow_le_pow_right (by decide) hl
  have h3 : 16 ^ 10 = 1099511627776 := by decide
  omega
theorem valF_six {b : Nat} (hb : b ≤ 16) {l : List UInt8} (h : ∀ c ∈ l, capB c = true) (hl : l.length ≤ 6) : valF b 0 l < 16777216 := by
  have h1 := valF_lt hb l 0 h
  have h2 : 16 ^ l.length ≤ 16 ^ 6 := Nat.pow_le_pow_right (by decide) hl
  have h3 : 16 ^ 6 = 16777216 := by decide
  omega
theorem bytesWorld_below (w : World) (s : ByteArray) : Below w.heap.size w (Lib.bytesWorld w 5 s) :=
  Lib.below_freeze (((Below.refl w.heap.size w).drew).alloc (Nat.le_refl _) _) (p := ⟨w.heap.size, (Lib.bytesCells w 5 s).size, none⟩) (Nat.le_refl _) 1
set_option maxHeartbeats 1000000 in
theorem valueOf_any (s : ByteArray) (base : Nat) (hb : base ≤ 16) (hl : s.size ≤ 10) (hc : ∀ c ∈ tl s, capB c = true) (w : World) :
    Calls Tryz.prog 60 #[.string s, .int .i64 (base : Nat)] w fun e w' => e = .returned (.int .i64 (valF base 0 (tl s) : Nat)) ∧ Below w.heap.size w w' := by
  have hcv := Lib.run_convert_string_bytes (P := Tryz.prog) w 9 50 5 s Tryz.underlying9 Tryz.underlying50 Tryz.underlying5
  have hcell := Lib.bytesWorld_cell w 5 s
  have hbl := bytesWorld_below w s
  obtain ⟨W, hW⟩ : ∃ W, W = Lib.bytesWorld w 5 s := ⟨_, rfl⟩
  rw [← hW] at hcv hcell hbl
  obtain ⟨z, hz⟩ : ∃ z, z = w.heap.size := ⟨_, rfl⟩
  rw [← hz] at hcv hcell
  have HC := Lib.hid hcell
  clear hW hcell hz
  go_enter Tryz.func60, Tryz.ntmps60
  go_wp2_with fail
  go_loop [5, 11] (fun n i => ∃ k : Nat, k ≤ s.size ∧ i = .int .i64 (k : Nat) ∧ n = .int .i64 (valF base 0 ((tl s).take k) : Nat)) (fun _ i => s.size - (intOf i).toNat)
  case atStart => exact ⟨0, Nat.zero_le _, rfl, rfl⟩
  case round =>
    obtain ⟨k, hk, rfl, rfl⟩ := hrel
    by_cases hlt : k < s.size
    · have hkl : k < (tl s).length := by simpa using hlt
      have hs : (tl s).take (k + 1) = (tl s).take k ++ [(tl s)[k]] := by rw [List.take_succ_eq_append_getElem hkl]
      have hcap : capB ((tl s)[k]) = true := hc _ (List.getElem_mem hkl)
      have ck := HC.out k hlt
      rw [show s.data.toList.getD k 0 = (tl s)[k] by simp [List.getD, hlt]] at ck
      have HI := fun wx => index_cap ((tl s)[k]) hcap wx
      have hv := valF_small (b := base) hb (l := (tl s).take k) (fun c hcc => hc c (List.mem_of_mem_take hcc)) (by simp; omega)
      have hd := digV_lt (.inr hcap)
      have hb8 : ((tl s)[k]).toNat < 256 := UInt8.toNat_lt _
      have hsn : valF base 0 ((tl s).take (k + 1)) = valF base 0 ((tl s).take k) * base + digV ((tl s)[k]) := by rw [hs, valF_snoc]
      obtain ⟨v, hvv⟩ : ∃ v, v = valF base 0 ((tl s).take k) := ⟨_, rfl⟩
      rw [← hvv] at hv hsn
      have hvb : v * base ≤ 1099511627776 * 16 := Nat.mul_le_mul (by omega) hb
      have hvi : (v : Int) * (base : Int) = ((v * base : Nat) : Int) := by simp
      obtain ⟨vb, hvb2⟩ : ∃ vb, vb = v * base := ⟨_, rfl⟩
      rw [← hvb2] at hvb hvi hsn
      have HVI := Lib.hid hvi
      have HSN := Lib.hid hsn
      obtain ⟨c, hcc⟩ : ∃ c, c = (tl s)[k] := ⟨_, rfl⟩
      rw [← hcc] at ck HI hd hb8
      have HCC := Lib.hid hcc
      rw [← hvv]
      have hw1 : ((v : Int) * (base : Int)) ≤ 17592186044416 := by rw [hvi]; omega
      have hw0 : 0 ≤ ((v : Int) * (base : Int)) := by rw [hvi]; omega
      clear hs hcap hvv hvb2 hvi hsn hcc
      go_wp2_with fail
      refine (HI _).mono ?_
      rintro e w1 ⟨rfl, rfl⟩
      go_wp2_with fail
      go_round
      case rel => exact ⟨k + 1, by omega, by go_num, by rw [HSN.out, ← HCC.out]; have := HVI.out; go_num⟩
      case measure => simp [intOf]; omega
    · have hkk : k = s.size := by omega
      subst hkk
      have hE : Hid ((tl s).take s.size = tl s) := Lib.hid (List.take_of_length_le (by simp))
      go_wp2_with fail
      go_ret
      exact ⟨by rw [hE.out]; rfl, hbl⟩
end Go.Proofs.YtonbfcpbgkpbaaaGreatDoor
end
section
/- recipe's isScalar, isRune; strings.HasPrefix, TrimPrefix; slices.Contains of texts: their contracts. -/
namespace Go.Proofs.YtonbfcpbgkpbaaaGreatDoor
open Go.RowKit Go.Joins
set_option linter.unusedVariables false
set_option maxRecDepth 100000
theorem scalar_any (n : Int) (h0 : 0 ≤ n) (w : World) :
    Calls Tryz.prog 36 #[.int .i32 n] w fun e w' => e = .returned (.bool (decide (n ≤ 55295) || (decide (57344 ≤ n) && decide (n ≤ 1114111)))) ∧ w' = w := by
  have d0 : decide (0 ≤ n) = true := decide_eq_true h0
  by_cases h1 : n ≤ 55295
  · have d1 : decide (n ≤ 55295) = true := decide_eq_true h1
    rw [d1]
    go_enter Tryz.func36, Tryz.ntmps36
    go_wp2_with fail
    go_ret
    exact ⟨rfl, rfl⟩
  · have d1 : decide (n ≤ 55295) = false := decide_eq_false h1
    by_cases h2 : 57344 ≤ n
    · have d2 : decide (57344 ≤ n) = true := decide_eq_true h2
      rw [d1, d2]
      go_enter Tryz.func36, Tryz.ntmps36
      go_wp2_with fail
      go_ret
      exact ⟨rfl, rfl⟩
    · have d2 : decide (57344 ≤ n) = false := decide_eq_false h2
      rw [d1, d2]
      go_enter Tryz.func36, Tryz.ntmps36
      go_wp2_with fail
      go_ret
      exact ⟨rfl, rfl⟩
theorem scalar_nat (n : Nat) (w : World) :
    Calls Tryz.prog 36 #[.int .i32 (n : Nat)] w fun e w' => e = .returned (.bool (scalarB n)) ∧ w' = w := by
  have h := scalar_any (n : Int) (by omega) w
  have e : scalarB n = (decide ((n : Int) ≤ 55295) || (decide (57344 ≤ (n : Int)) && decide ((n : Int) ≤ 1114111))) := by
    unfold scalarB
    rw [Bool.eq_iff_iff]; simp; omega
  rw [e]
  exact h
theorem litePre_any (s p : ByteArray) (hs : s.size ≤ 9223372036854775807) (w : World) :
    Calls Tryz.prog 61 #[.string s, .string p] w fun e w' => e = .returned (.bool (decide (p.size ≤ s.size) && ((s.extract 0 p.size).toList == p.toList))) ∧ w' = w := by
  by_cases h : p.size ≤ s.size
  · have d : decide (p.size ≤ s.size) = true := decide_eq_true h
    have hs : p.size ≤ 9223372036854775807 := by omega
    rw [d]
    go_enter Tryz.func61, Tryz.ntmps61
    go_wp2_with fail
    go_ret
    exact ⟨rfl, rfl⟩
  · have d : decide (p.size ≤ s.size) = false := decide_eq_false h
    rw [d]
    go_enter Tryz.func61, Tryz.ntmps61
    go_wp2_with fail
    go_ret
    exact ⟨rfl, rfl⟩
def preB (s p : ByteArray) : Bool := decide (p.size ≤ s.size) && ((s.extract 0 p.size).toList == p.toList)
theorem preB_iff (s p : ByteArray) : preB s p = true ↔ (tl s).take p.size = tl p := by
  unfold preB
  rw [Bool.and_eq_true, decide_eq_true_eq, beq_iff_eq]
  rw [Lib.toList_data, Lib.toList_data]
  constructor
  · rintro ⟨h1, h2⟩
    simpa using h2
  · intro h
    have h1 : p.size ≤ s.size := by
      have := congrArg List.length h
      simp at this
      omega
    refine ⟨h1, ?_⟩
    simpa using h
theorem prefix_any (s p : ByteArray) (hs : s.size ≤ 9223372036854775807) (w : World) :
    Calls Tryz.prog 98 #[.string s, .string p] w fun e w' => e = .returned (.bool (preB s p)) ∧ w' = w := by
  have H := litePre_any s p hs
  rw [show (decide (p.size ≤ s.size) && ((s.extract 0 p.size).toList == p.toList)) = preB s p from rfl] at H
  go_enter Tryz.func98, Tryz.ntmps98
  go_wp2_with fail
  refine (H _).mono ?_
  rintro e w1 ⟨rfl, rfl⟩
  go_wp2_with fail
  go_ret
  exact ⟨rfl, rfl⟩
def trimB (s p : ByteArray) : ByteArray := if preB s p = true then s.extract p.size s.size else s
theorem liteTrim_any (s p : ByteArray) (hs : s.size ≤ 9223372036854775807) (w : World) :
    Calls Tryz.prog 108 #[.string s, .string p] w fun e w' => e = .returned (.string (trimB s p)) ∧ w' = w := by
  have H := litePre_any s p hs
  rw [show (decide (p.size ≤ s.size) && ((s.extract 0 p.size).toList == p.toList)) = preB s p from rfl] at H
  unfold trimB
  by_cases h : preB s p = true
  · have h1 : p.size ≤ s.size := by
      unfold preB at h
      rw [Bool.and_eq_true, decide_eq_true_eq] at h
      exact h.1
    rw [if_pos h]
    rw [h] at H
    clear h
    go_enter Tryz.func108, Tryz.ntmps108
    go_wp2_with fail
    refine (H _).mono ?_
    rintro e w1 ⟨rfl, rfl⟩
    go_wp2_with fail
    go_ret
    exact ⟨rfl, rfl⟩
  · rw [if_neg h]
    have h : preB s p = false := by simpa using h
    rw [h] at H
    clear h
    go_enter Tryz.func108, Tryz.ntmps108
    go_wp2_with fail
    refine (H _).mono ?_
    rintro e w1 ⟨rfl, rfl⟩
    go_wp2_with fail
    go_ret
    exact ⟨rfl, rfl⟩
theorem trim_any (s p : ByteArray) (hs : s.size ≤ 9223372036854775807) (w : World) :
    Calls Tryz.prog 100 #[.string s, .string p] w fun e w' => e = .returned (.string (trimB s p)) ∧ w' = w := by
  have H := liteTrim_any s p hs
  go_enter Tryz.func100, Tryz.ntmps100
  go_wp2_with fail
  refine (H _).mono ?_
  rintro e w1 ⟨rfl, rfl⟩
  go_wp2_with fail
  go_ret
  exact ⟨rfl, rfl⟩
set_option maxHeartbeats 1000000 in
theorem isRune_any (s : ByteArray) (hs : s.size ≤ 9223372036854775807) (hc : ∀ c ∈ tl s, capB c = true) (w : World) :
    Calls Tryz.prog 83 #[.string s] w fun e w' => e = .returned (.bool (runeDB (tl s))) ∧ Below w.heap.size w w' := by
  have HR : Hid (runeDB (tl s) = (decide (4 ≤ s.size) && decide (s.size ≤ 6) && (decide (s.size ≤ 4) || ((tl s).headD 0).toNat != 48) && scalarB (valF 16 0 (tl s)))) := Lib.hid (by unfold runeDB; rw [tl_len])
  by_cases h4 : s.size < 4
  · have HB : Hid (runeDB (tl s) = false) := Lib.hid (by rw [HR.out, show decide (4 ≤ s.size) = false from decide_eq_false (by omega)]; rfl)
    rw [HB.out]
    have d : decide ((s.size : Int) < 4) = true := decide_eq_true (by omega)
    go_enter Tryz.func83, Tryz.ntmps83
    go_wp2_with fail
    go_ret
    exact ⟨rfl, Below.refl _ _⟩
  · have d : decide ((s.size : Int) < 4) = false := decide_eq_false (by omega)
    have e4 : decide (4 ≤ s.size) = true := decide_eq_true (by omega)
    by_cases h6 : 6 < s.size
    · have HB : Hid (runeDB (tl s) = false) := Lib.hid (by rw [HR.out, show decide (s.size ≤ 6) = false from decide_eq_false (by omega)]; simp)
      rw [HB.out]
      have d6 : decide ((s.size : Int) > 6) = true := decide_eq_true (by omega)
      have d7 : decide ((6 : Int) < (s.size : Int)) = true := decide_eq_true (by omega)
      clear e4
      go_enter Tryz.func83, Tryz.ntmps83
      go_wp2_with fail
      go_ret
      exact ⟨rfl, Below.refl _ _⟩
    · have d7 : decide ((6 : Int) < (s.size : Int)) = false := decide_eq_false (by omega)
      have e6 : decide (s.size ≤ 6) = true := decide_eq_true (by omega)
      have hv := valF_six (b := 16) (by omega) hc (by rw [tl_len]; omega)
      have HV := fun wx => valueOf_any s 16 (by omega) (by omega) hc wx
      have HS := fun wx => scalar_nat (valF 16 0 (tl s)) wx
      obtain ⟨v, hvv⟩ : ∃ v, v = valF 16 0 (tl s) := ⟨_, rfl⟩
      rw [← hvv] at hv HV HS
      have hw : wrap32 (v : Int) = (v : Int) := by unfold wrap32; omega
      have HVV := Lib.hid hvv
      clear hvv
      by_cases h5 : 4 < s.size
      · have d5 : decide ((4 : Int) < (s.size : Int)) = true := decide_eq_true (by omega)
        have e5 : decide (s.size ≤ 4) = false := decide_eq_false (by omega)
        have hh : ((tl s).headD 0).toNat = (s[0]'(by omega)).toNat := by
          have hl : 0 < (tl s).length := by simp; omega
          cases ht : tl s with
          | nil => rw [ht] at hl; simp at hl
          | cons a l =>
            have : s[0]'(by omega) = (tl s)[0] := rfl
            rw [this]
            simp [ht]
        by_cases hz : (s[0]'(by omega)).toNat = 48
        · have HB : Hid (runeDB (tl s) = false) := Lib.hid (by rw [HR.out, e5, hh, hz]; simp)
          rw [HB.out]
          have hzz : (((s[0]'(by omega)).toNat : Int) == 48) = true := by simp [hz]
          clear e4 e6 e5 hh hz
          go_enter Tryz.func83, Tryz.ntmps83
          go_wp2_with fail
          go_ret
          exact ⟨rfl, Below.refl _ _⟩
        · have HB : Hid (runeDB (tl s) = scalarB v) := Lib.hid (by rw [HR.out, e5, e4, e6, hh, HVV.out]; simp [hz])
          rw [HB.out]
          have hzz : (((s[0]'(by omega)).toNat : Int) == 48) = false := by simp; omega
          clear e4 e6 e5 hh hz
          go_enter Tryz.func83, Tryz.ntmps83
          go_wp2_with fail
          refine (HV _).mono ?_
          rintro e w1 ⟨rfl, hb⟩
          go_wp2_with fail
          refine (HS _).mono ?_
          rintro e w2 ⟨rfl, rfl⟩
          go_wp2_with fail
          go_ret
          exact ⟨rfl, hb⟩
      · have d5 : decide ((4 : Int) < (s.size : Int)) = false := decide_eq_false (by omega)
        have e5 : decide (s.size ≤ 4) = true := decide_eq_true (by omega)
        have HB : Hid (runeDB (tl s) = scalarB v) := Lib.hid (by rw [HR.out, e5, e4, e6, HVV.out]; simp)
        rw [HB.out]
        clear e4 e6 e5
        go_enter Tryz.func83, Tryz.ntmps83
        go_wp2_with fail
        refine (HV _).mono ?_
        rintro e w1 ⟨rfl, hb⟩
        go_wp2_with fail
        refine (HS _).mono ?_
        rintro e w2 ⟨rfl, rfl⟩
        go_wp2_with fail
        go_ret
        exact ⟨rfl, hb⟩
end Go.Proofs.YtonbfcpbgkpbaaaGreatDoor
end
