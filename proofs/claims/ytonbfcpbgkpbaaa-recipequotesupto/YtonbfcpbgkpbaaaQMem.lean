/- Lists in memory; tesserakeep.Same: its contract. -/
import Derived.Test.YtonbfcpbgkpbaaaMMath
import Derived.Test.YtonbfcpbgkpbaaaRows
import Derived.WalkKit
import Derived.ProofKit
import Derived.Below
import Derived.OpenShut
import Derived.WalkSpells
import Derived.WalkLawsBesides
import Derived.Deep.QuietTactic
import Derived.BigQuiet
import Derived.Laws.StructEq
import Derived.Lib.SmallJoins
import Derived.Laws.CopyOwn
import Derived.Laws.MakeOwn
import Derived.Laws.OwnMore
import Derived.Deep.DeepMust
import Derived.Lib.UnsafeStr
import Derived.Lib.BufferWrite
namespace Go.Proofs.Ytonbfcpbgkpbaaa
open Go.RowKit Go.Sort Go.Joins
set_option linter.unusedVariables false
/-- A span's two cells. -/
def SpAt (w : World) (b off : Nat) (x : Sp) : Prop := w.cell? ⟨b, off, none⟩ = some (.int .i32 x.lo) ∧ w.cell? ⟨b, off + 1, none⟩ = some (.int .i32 x.hi)
theorem SpAt.below {w w' : World} {b off : Nat} {x : Sp} (h : SpAt w b off x) (hb : Below w.heap.size w w') : SpAt w' b off x :=
  ⟨(hb.cell (World.block_lt_of_cell? w _ h.1)).trans h.1, (hb.cell (World.block_lt_of_cell? w _ h.2)).trans h.2⟩
/-- The slice that begins at a holds the spans l. -/
def SPS (w : World) (a : Option Addr) (l : List Sp) : Prop :=
  l = [] ∨ ∃ b off, a = some ⟨b, off, none⟩ ∧ ∀ i x, l[i]? = some x → SpAt w b (off + i * 2) x
theorem SPS.below {w w' : World} {a : Option Addr} {l : List Sp} (h : SPS w a l) (hb : Below w.heap.size w w') : SPS w' a l := by
  rcases h with h | ⟨b, off, rfl, hc⟩
  · exact .inl h
  · exact .inr ⟨b, off, rfl, fun i x hx => (hc i x hx).below hb⟩
theorem cell_alloc_s {w : World} {a : Addr} {v : Value} (h : w.cell? a = some v) (o : Obj) : (w.alloc o).cell? a = some v :=
  (((Below.refl w.heap.size w).alloc (Nat.le_refl _) o).cell (World.block_lt_of_cell? w _ h)).trans h
def fLo : Field := Field.mk "Lo" 21 0 false "" "" 0
def fHi : Field := Field.mk "Hi" 21 1 false "" "" 4
theorem fields26 : Try.prog.fieldsOf 61 = #[fLo, fHi] := by kernel_rfl
theorem und26 : Try.prog.underlying 61 = some (.struct #[fLo, fHi]) := by kernel_rfl
theorem held26 : Try.prog.stoodInHeld 61 = false := by kernel_rfl
def spEq (x y : Sp) : Bool := x.lo == y.lo && x.hi == y.hi
theorem equal_sp (a b c d : Int) (W : World) : (Op.equalIn 10000 61 (.agg #[.int .i32 a, .int .i32 b]) (.agg #[.int .i32 c, .int .i32 d])).run Try.prog W = .ok (a == c && b == d) W := by
  rw [run_equalIn_agg W 9999 61 _ _ (by rw [fields26]; exact und26) held26, fields26]
  simp [go_sem, Op.eqFields, fLo, fHi, part]
  by_cases h1 : a = c
  · by_cases h2 : b = d
    · simp [h1, h2]
    · simp [h1, h2]
  · simp [h1]
theorem neq_sp (x y : Sp) (v : Bool) (h : (!spEq x y) = v) (W : World) : (binOp BinOp.neq 61 (.agg #[.int .i32 x.lo, .int .i32 x.hi]) (.agg #[.int .i32 y.lo, .int .i32 y.hi])).run Try.prog W = .ok (.bool v) W := by
  rw [run_neq_struct, equal_sp, ← h]
  rfl
theorem eqIn_sp (x y : Sp) (v : Bool) (h : spEq x y = v) (W : World) : (Op.equalIn 10000 61 (.agg #[.int .i32 x.lo, .int .i32 x.hi]) (.agg #[.int .i32 y.lo, .int .i32 y.hi])).run Try.prog W = .ok v W := by
  rw [equal_sp, ← h]
  rfl
theorem spEq_self (x : Sp) : spEq x x = true := by simp [spEq]
/-- A list's cells. -/
def cellsS (l : List Sp) : List Value := l.flatMap fun x => [.int .i32 x.lo, .int .i32 x.hi]
theorem cellsS_length (l : List Sp) : (cellsS l).length = l.length * 2 := by
  induction l with
  | nil => rfl
  | cons x l ih => simp only [cellsS, List.flatMap_cons, List.length_append, List.length_cons] at ih ⊢; rw [ih]; simp; omega
theorem cellsS_get (l : List Sp) (i : Nat) (x : Sp) (h : l[i]? = some x) : (cellsS l)[i * 2]? = some (.int .i32 x.lo) ∧ (cellsS l)[i * 2 + 1]? = some (.int .i32 x.hi) := by
  induction l generalizing i with
  | nil => simp at h
  | cons y l ih =>
    cases i with
    | zero =>
      have : y = x := by simpa using h
      subst this
      exact ⟨rfl, rfl⟩
    | succ i =>
      have := ih i (by simpa using h)
      have e : cellsS (y :: l) = .int .i32 y.lo :: .int .i32 y.hi :: cellsS l := rfl
      rw [e, show (i + 1) * 2 = i * 2 + 1 + 1 by omega, show i * 2 + 1 + 1 + 1 = i * 2 + 1 + 1 + 1 from rfl]
      simpa using this
theorem SPS.of_block {w : World} {g : Nat} {l r : List Sp} {t : TypeId} {fr : Nat × Nat} (h : w.heap[g]? = some (.cells (cellsS (l ++ r)).toArray t fr)) : SPS w (some ⟨g, 0, none⟩) l := by
  refine .inr ⟨g, 0, rfl, fun i x hx => ?_⟩
  have hx' : (l ++ r)[i]? = some x := by
    rw [List.getElem?_append_left (List.getElem?_eq_some_iff.1 hx).1]; exact hx
  obtain ⟨h0, h1⟩ := cellsS_get _ _ _ hx'
  refine ⟨?_, ?_⟩ <;> rw [cell_of_block h, Nat.zero_add] <;> simpa
theorem SPS.new (w : World) (l : List Sp) (t : TypeId) : SPS (w.alloc (.cells (cellsS l).toArray t)) (some ⟨w.heap.size, 0, none⟩) l :=
  SPS.of_block (r := []) (by rw [List.append_nil]; exact heap_alloc_new _ _)
/-- No span but those from lo on, m of them, can hold r. -/
def Left (l : List Sp) (r : Int) (lo m : Nat) : Prop := ∀ (i : Nat) (x : Sp), l[i]? = some x → (i < lo ∨ lo + m ≤ i) → ¬ (x.lo ≤ r ∧ r ≤ x.hi)
/-- The slice that begins at a holds the words l. -/
def WSP (w : World) (a : Option Addr) (l : List ByteArray) : Prop :=
  l = [] ∨ ∃ b off, a = some ⟨b, off, none⟩ ∧ ∀ i x, l[i]? = some x → w.cell? ⟨b, off + i, none⟩ = some (.string x)
theorem WSP.below {w w' : World} {a : Option Addr} {l : List ByteArray} (h : WSP w a l) (hb : Below w.heap.size w w') : WSP w' a l := by
  rcases h with h | ⟨b, off, rfl, hc⟩
  · exact .inl h
  · exact .inr ⟨b, off, rfl, fun i x hx => (hb.cell (World.block_lt_of_cell? w _ (hc i x hx))).trans (hc i x hx)⟩
/-- A merge's three cells. -/
def MgAt (w : World) (b off : Nat) (x : Mg) : Prop := w.cell? ⟨b, off, none⟩ = some (.int .i64 x.l) ∧ w.cell? ⟨b, off + 1, none⟩ = some (.int .i64 x.r) ∧ w.cell? ⟨b, off + 2, none⟩ = some (.int .i64 x.i)
theorem MgAt.below {w w' : World} {b off : Nat} {x : Mg} (h : MgAt w b off x) (hb : Below w.heap.size w w') : MgAt w' b off x :=
  ⟨(hb.cell (World.block_lt_of_cell? w _ h.1)).trans h.1, (hb.cell (World.block_lt_of_cell? w _ h.2.1)).trans h.2.1, (hb.cell (World.block_lt_of_cell? w _ h.2.2)).trans h.2.2⟩
/-- The slice that begins at a holds the merges l. -/
def MSP (w : World) (a : Option Addr) (l : List Mg) : Prop :=
  l = [] ∨ ∃ b off, a = some ⟨b, off, none⟩ ∧ ∀ i x, l[i]? = some x → MgAt w b (off + i * 3) x
theorem MSP.below {w w' : World} {a : Option Addr} {l : List Mg} (h : MSP w a l) (hb : Below w.heap.size w w') : MSP w' a l := by
  rcases h with h | ⟨b, off, rfl, hc⟩
  · exact .inl h
  · exact .inr ⟨b, off, rfl, fun i x hx => (hc i x hx).below hb⟩
/-- A block that holds data. -/
def DBox (w : World) (z : Nat) (v0 v1 v2 v3 v4 : Value) : Prop := w.heap[z]? = some (.cells #[v0, v1, v2, v3, v4] 27 (0, 0))
theorem DBox.new (w : World) (v0 v1 v2 v3 v4 : Value) : DBox (w.alloc (.cells #[v0, v1, v2, v3, v4] 27)) w.heap.size v0 v1 v2 v3 v4 := heap_alloc_new _ _
theorem DBox.lt {w : World} {z : Nat} {v0 v1 v2 v3 v4 : Value} (h : DBox w z v0 v1 v2 v3 v4) : z < w.heap.size := (Array.getElem?_eq_some_iff.1 h).1
theorem DBox.below {w w' : World} {z B : Nat} {v0 v1 v2 v3 v4 : Value} (h : DBox w z v0 v1 v2 v3 v4) (hb : Below B w w') (hz : z < B) : DBox w' z v0 v1 v2 v3 v4 := (hb.block z hz).trans h
theorem DBox.c0 {w : World} {z : Nat} {v0 v1 v2 v3 v4 : Value} (h : DBox w z v0 v1 v2 v3 v4) : w.cell? ⟨z, 0, none⟩ = some v0 := cell_of_block h 0
theorem DBox.c1 {w : World} {z : Nat} {v0 v1 v2 v3 v4 : Value} (h : DBox w z v0 v1 v2 v3 v4) : w.cell? ⟨z, 1, none⟩ = some v1 := cell_of_block h 1
theorem DBox.c2 {w : World} {z : Nat} {v0 v1 v2 v3 v4 : Value} (h : DBox w z v0 v1 v2 v3 v4) : w.cell? ⟨z, 2, none⟩ = some v2 := cell_of_block h 2
theorem DBox.c3 {w : World} {z : Nat} {v0 v1 v2 v3 v4 : Value} (h : DBox w z v0 v1 v2 v3 v4) : w.cell? ⟨z, 3, none⟩ = some v3 := cell_of_block h 3
theorem DBox.c4 {w : World} {z : Nat} {v0 v1 v2 v3 v4 : Value} (h : DBox w z v0 v1 v2 v3 v4) : w.cell? ⟨z, 4, none⟩ = some v4 := cell_of_block h 4
theorem box_below (w : World) (o : Obj) : Below w.heap.size w (w.alloc o) := (Below.refl _ _).alloc (Nat.le_refl _) _
theorem SPS.cells {w : World} {x : Addr} {l : List Sp} (h : SPS w (some x) l) : ∀ j u, (cellsS l)[j]? = some u → w.cell? (x.add j) = some u := by
  intro j u hu
  rcases h with rfl | ⟨b, off, hx, hc⟩
  · simp [cellsS] at hu
  · obtain rfl := Option.some.inj hx
    have hj : j < (cellsS l).length := (List.getElem?_eq_some_iff.1 hu).1
    rw [cellsS_length] at hj
    have hi : l[j / 2]? = some l[j / 2] := List.getElem?_eq_getElem (by omega)
    obtain ⟨g0, g1⟩ := cellsS_get _ _ _ hi
    obtain ⟨c0, c1⟩ := hc _ _ hi
    rw [Go.WideShapes.add_plain]
    rcases Nat.mod_two_eq_zero_or_one j with e | e
    · have ej : j = j / 2 * 2 := by omega
      rw [ej, g0] at hu
      rw [ej, c0]
      exact hu
    · have ej : j = j / 2 * 2 + 1 := by omega
      rw [ej, g1] at hu
      rw [ej, ← Nat.add_assoc, c1]
      exact hu
set_option maxHeartbeats 800000 in
/-- Of two slices that hold the same spans, Same says so. -/
theorem same_any (a b : Option Addr) (ca cb : Nat) (l : List Sp) (w : World) (hlen : l.length ≤ 9223372036854775807) (ha : SPS w a l) (hb : SPS w b l) :
    Calls Try.prog 30 #[.slice a l.length ca, .slice b l.length cb] w fun e w' => e = .returned (.bool true) ∧ Below w.heap.size w w' := by
  obtain ⟨n, hn⟩ : ∃ n, n = l.length := ⟨_, rfl⟩
  have HN : Hid (n = l.length) := hn
  rw [← hn] at hlen ⊢
  clear hn
  have hne : ((n : Int) != (n : Int)) = false := by simp
  go_enter Try.func30, Try.ntmps30
  go_wp2
  go_loopw [5] (fun i wr => ∃ k : Nat, k ≤ n ∧ i = .int .i64 k ∧ Below w.heap.size w wr) (fun i _ => n - (intOf i).toNat)
  case atStart => exact ⟨0, Nat.zero_le _, rfl, Below.refl _ _⟩
  case round =>
    obtain ⟨k, hk, rfl, hbr⟩ := hrel
    by_cases hlt : k < n
    · have hkl : k < l.length := by rw [← HN.out]; exact hlt
      have hnil : l ≠ [] := fun e => by rw [e] at hkl; simp at hkl
      rcases ha with h | ⟨ga, oa, rfl, ha⟩
      · exact absurd h hnil
      rcases hb with h | ⟨gb, ob, rfl, hb⟩
      · exact absurd h hnil
      obtain ⟨x, hx⟩ : ∃ x, l[k]? = some x := ⟨l[k], List.getElem?_eq_getElem hkl⟩
      obtain ⟨a0, a1⟩ := (ha k x hx).below hbr
      obtain ⟨b0, b1⟩ := (hb k x hx).below hbr
      have HE := eqIn_sp x x true (spEq_self x)
      have HF := neq_sp x x false (by rw [spEq_self]; rfl)
      clear ha hb hnil hkl hx
      go_wp2_with fail
      go_quiet (fail)
      go_wp2_with fail
      exact ⟨⟨k + 1, by omega, by go_num, below_drewN hbr nq⟩, by simp only [intOf]; omega⟩
    · have hkn : k = n := by omega
      subst hkn
      go_wp2_with fail
      go_ret
      exact ⟨rfl, hbr⟩
/-- The cells of words. -/
def cellsW (l : List ByteArray) : List Value := l.map Value.string
theorem cellsW_length (l : List ByteArray) : (cellsW l).length = l.length * 1 := by simp [cellsW]
theorem cellsW_get {l : List ByteArray} {i : Nat} {x : ByteArray} (h : l[i]? = some x) : (cellsW l)[i]? = some (.string x) := by simp [cellsW, h]
/-- The cells of merges. -/
def cellsM (l : List Mg) : List Value := l.flatMap fun x => [.int .i64 x.l, .int .i64 x.r, .int .i64 x.i]
theorem cellsM_length (l : List Mg) : (cellsM l).length = l.length * 3 := by
  induction l with
  | nil => rfl
  | cons x l ih => simp only [cellsM, List.flatMap_cons, List.length_append, List.length_cons] at ih ⊢; rw [ih]; simp; omega
theorem cellsM_get (l : List Mg) (i : Nat) (x : Mg) (h : l[i]? = some x) : (cellsM l)[i * 3]? = some (.int .i64 x.l) ∧ (cellsM l)[i * 3 + 1]? = some (.int .i64 x.r) ∧ (cellsM l)[i * 3 + 2]? = some (.int .i64 x.i) := by
  induction l generalizing i with
  | nil => simp at h
  | cons y l ih =>
    cases i with
    | zero =>
      have : y = x := by simpa using h
      subst this
      exact ⟨rfl, rfl, rfl⟩
    | succ i =>
      have := ih i (by simpa using h)
      have e : cellsM (y :: l) = .int .i64 y.l :: .int .i64 y.r :: .int .i64 y.i :: cellsM l := rfl
      rw [e, show (i + 1) * 3 = i * 3 + 1 + 1 + 1 by omega, show i * 3 + 1 + 1 + 1 + 1 = (i * 3 + 1) + 1 + 1 + 1 from rfl, show i * 3 + 1 + 1 + 1 + 2 = (i * 3 + 2) + 1 + 1 + 1 from rfl]
      simpa using this
theorem WSP.cells {w : World} {x : Addr} {l : List ByteArray} (h : WSP w (some x) l) : ∀ j u, (cellsW l)[j]? = some u → w.cell? (x.add j) = some u := by
  intro j u hu
  rcases h with rfl | ⟨b, off, hx, hc⟩
  · simp [cellsW] at hu
  · obtain rfl := Option.some.inj hx
    have hj : j < l.length := by have := (List.getElem?_eq_some_iff.1 hu).1; rw [cellsW_length] at this; omega
    have hi : l[j]? = some l[j] := List.getElem?_eq_getElem hj
    rw [cellsW_get hi] at hu
    rw [Go.WideShapes.add_plain, hc j _ hi]
    exact hu
theorem MSP.cells {w : World} {x : Addr} {l : List Mg} (h : MSP w (some x) l) : ∀ j u, (cellsM l)[j]? = some u → w.cell? (x.add j) = some u := by
  intro j u hu
  rcases h with rfl | ⟨b, off, hx, hc⟩
  · simp [cellsM] at hu
  · obtain rfl := Option.some.inj hx
    have hj : j < (cellsM l).length := (List.getElem?_eq_some_iff.1 hu).1
    rw [cellsM_length] at hj
    have hi : l[j / 3]? = some l[j / 3] := List.getElem?_eq_getElem (by omega)
    obtain ⟨g0, g1, g2⟩ := cellsM_get _ _ _ hi
    obtain ⟨c0, c1, c2⟩ := hc _ _ hi
    rw [Go.WideShapes.add_plain]
    have h3 : j % 3 = 0 ∨ j % 3 = 1 ∨ j % 3 = 2 := by omega
    rcases h3 with e | e | e
    · have ej : j = j / 3 * 3 := by omega
      rw [ej, g0] at hu
      rw [ej, c0]
      exact hu
    · have ej : j = j / 3 * 3 + 1 := by omega
      rw [ej, g1] at hu
      rw [ej, ← Nat.add_assoc, c1]
      exact hu
    · have ej : j = j / 3 * 3 + 2 := by omega
      rw [ej, g2] at hu
      rw [ej, ← Nat.add_assoc, c2]
      exact hu
def But (b B : Nat) (W W' : World) : Prop := W'.os = W.os ∧ W'.tape = W.tape ∧ W'.output = W.output ∧ W.heap.size ≤ W'.heap.size ∧ ∀ k, k < B → k ≠ b → W'.heap[k]? = W.heap[k]?
theorem But.refl (b B : Nat) (W : World) : But b B W W := ⟨rfl, rfl, rfl, Nat.le_refl _, fun _ _ _ => rfl⟩
theorem But.of_below {b B : Nat} {W W' : World} (h : Below B W W') : But b B W W' := ⟨h.os, h.tape, h.output, h.size, fun k hk _ => h.block k hk⟩
theorem But.trans {b B : Nat} {X Y Z : World} (h : But b B X Y) (k : But b B Y Z) : But b B X Z := ⟨k.1.trans h.1, k.2.1.trans h.2.1, k.2.2.1.trans h.2.2.1, Nat.le_trans h.2.2.2.1 k.2.2.2.1, fun i hi hb => (k.2.2.2.2 i hi hb).trans (h.2.2.2.2 i hi hb)⟩
theorem But.setCell {b B : Nat} {W W' : World} (h : But b B W W') (j : Nat) (v : Value) : But b B W (W'.setCell ⟨b, j, none⟩ v) := ⟨h.1, h.2.1, h.2.2.1, by simpa using h.2.2.2.1, fun k hk hb => (Below.heap_setCell _ _ _ k hb).trans (h.2.2.2.2 k hk hb)⟩
theorem But.below {b B B' : Nat} {W W' : World} (h : But b B W W') (hB : B' ≤ B) (hb : B' ≤ b) : Below B' W W' := ⟨h.1, h.2.1, h.2.2.1, h.2.2.2.1, fun k hk => h.2.2.2.2 k (by omega) (by omega)⟩
theorem But.size {b B : Nat} {W W' : World} (h : But b B W W') : W.heap.size ≤ W'.heap.size := h.2.2.2.1
theorem But.mono {b B B' : Nat} {W W' : World} (h : But b B W W') (hB : B' ≤ B) : But b B' W W' := ⟨h.1, h.2.1, h.2.2.1, h.2.2.2.1, fun k hk hb => h.2.2.2.2 k (by omega) hb⟩
theorem But.above {b B : Nat} {W W' : World} (h : But b B W W') {p : Addr} (hp : B ≤ p.block) (v : Value) : But b B W (W'.setCell p v) := ⟨h.1, h.2.1, h.2.2.1, by simpa using h.2.2.2.1, fun k hk hb => (Below.heap_setCell _ _ _ k (by omega)).trans (h.2.2.2.2 k hk hb)⟩
theorem WSP.new (w : World) (l : List ByteArray) (t : TypeId) : WSP (w.alloc (.cells (cellsW l).toArray t)) (some ⟨w.heap.size, 0, none⟩) l := by
  refine .inr ⟨w.heap.size, 0, rfl, fun i x hx => ?_⟩
  rw [cell_of_block (heap_alloc_new _ _), Nat.zero_add]
  simpa using cellsW_get hx
theorem MSP.new (w : World) (l : List Mg) (t : TypeId) : MSP (w.alloc (.cells (cellsM l).toArray t)) (some ⟨w.heap.size, 0, none⟩) l := by
  refine .inr ⟨w.heap.size, 0, rfl, fun i x hx => ?_⟩
  obtain ⟨h0, h1, h2⟩ := cellsM_get l i x hx
  unfold MgAt
  rw [cell_of_block (heap_alloc_new _ _), cell_of_block (heap_alloc_new _ _), cell_of_block (heap_alloc_new _ _), Nat.zero_add]
  exact ⟨by simpa using h0, by simpa using h1, by simpa using h2⟩
set_option maxHeartbeats 800000 in
/-- Of two slices that hold the same words, Same says so. -/
theorem sameW_any (a b : Option Addr) (ca cb : Nat) (l : List ByteArray) (w : World) (hlen : l.length ≤ 9223372036854775807) (ha : WSP w a l) (hb : WSP w b l) :
    Calls Try.prog 28 #[.slice a l.length ca, .slice b l.length cb] w fun e w' => e = .returned (.bool true) ∧ Below w.heap.size w w' := by
  obtain ⟨n, hn⟩ : ∃ n, n = l.length := ⟨_, rfl⟩
  have HN : Hid (n = l.length) := hn
  rw [← hn] at hlen ⊢
  clear hn
  have hne : ((n : Int) != (n : Int)) = false := by simp
  go_enter Try.func28, Try.ntmps28
  go_wp2
  go_loopw [5] (fun i wr => ∃ k : Nat, k ≤ n ∧ i = .int .i64 k ∧ Below w.heap.size w wr) (fun i _ => n - (intOf i).toNat)
  case atStart => exact ⟨0, Nat.zero_le _, rfl, Below.refl _ _⟩
  case round =>
    obtain ⟨k, hk, rfl, hbr⟩ := hrel
    by_cases hlt : k < n
    · have hkl : k < l.length := by rw [← HN.out]; exact hlt
      have hnil : l ≠ [] := fun e => by rw [e] at hkl; simp at hkl
      rcases ha with h | ⟨ga, oa, rfl, ha⟩
      · exact absurd h hnil
      rcases hb with h | ⟨gb, ob, rfl, hb⟩
      · exact absurd h hnil
      obtain ⟨x, hx⟩ : ∃ x, l[k]? = some x := ⟨l[k], List.getElem?_eq_getElem hkl⟩
      have a0 := (hbr.cell (World.block_lt_of_cell? w _ (ha k x hx))).trans (ha k x hx)
      have b0 := (hbr.cell (World.block_lt_of_cell? w _ (hb k x hx))).trans (hb k x hx)
      have HE : (x.toList == x.toList) = true := by simp
      have HF : (x.toList != x.toList) = false := by simp
      clear ha hb hnil hkl hx
      go_wp2_with fail
      go_quiet (fail)
      go_wp2_with fail
      exact ⟨⟨k + 1, by omega, by go_num, below_drewN hbr nq⟩, by simp only [intOf]; omega⟩
    · have hkn : k = n := by omega
      subst hkn
      go_wp2_with fail
      go_ret
      exact ⟨rfl, hbr⟩
theorem MgAt.new (w : World) (m : Mg) (t : TypeId) : MgAt (w.alloc (.cells #[.int .i64 m.l, .int .i64 m.r, .int .i64 m.i] t)) w.heap.size 0 m := ⟨by simp [go_sem], by simp [go_sem], by simp [go_sem]⟩
def gL : Field := Field.mk "Left" 3 0 false "" "" 0
def gR : Field := Field.mk "Right" 3 1 false "" "" 8
def gI : Field := Field.mk "Id" 3 2 false "" "" 16
theorem fieldsM : Try.prog.fieldsOf 59 = #[gL, gR, gI] := by kernel_rfl
theorem undM : Try.prog.underlying 59 = some (.struct #[gL, gR, gI]) := by kernel_rfl
theorem heldM : Try.prog.stoodInHeld 59 = false := by kernel_rfl
def mgEq (x y : Mg) : Bool := x.l == y.l && (x.r == y.r && x.i == y.i)
theorem mgEq_self (x : Mg) : mgEq x x = true := by simp [mgEq]
theorem equal_mg (a b c a' b' c' : Int) (W : World) : (Op.equalIn 10000 59 (.agg #[.int .i64 a, .int .i64 b, .int .i64 c]) (.agg #[.int .i64 a', .int .i64 b', .int .i64 c'])).run Try.prog W = .ok (a == a' && (b == b' && c == c')) W := by
  rw [run_equalIn_agg W 9999 59 _ _ (by rw [fieldsM]; exact undM) heldM, fieldsM]
  simp [go_sem, Op.eqFields, gL, gR, gI, part]
  by_cases h1 : a = a'
  · by_cases h2 : b = b'
    · by_cases h3 : c = c'
      · simp [h1, h2, h3]
      · simp [h1, h2, h3]
    · simp [h1, h2]
  · simp [h1]
theorem neq_mg (x y : Mg) (v : Bool) (h : (!mgEq x y) = v) (W : World) : (binOp BinOp.neq 59 (.agg #[.int .i64 x.l, .int .i64 x.r, .int .i64 x.i]) (.agg #[.int .i64 y.l, .int .i64 y.r, .int .i64 y.i])).run Try.prog W = .ok (.bool v) W := by
  rw [run_neq_struct, equal_mg, ← h]
  rfl
theorem eqIn_mg (x y : Mg) (v : Bool) (h : mgEq x y = v) (W : World) : (Op.equalIn 10000 59 (.agg #[.int .i64 x.l, .int .i64 x.r, .int .i64 x.i]) (.agg #[.int .i64 y.l, .int .i64 y.r, .int .i64 y.i])).run Try.prog W = .ok v W := by
  rw [equal_mg, ← h]
  rfl
theorem MSP.of_block {w : World} {g : Nat} {l r : List Mg} {t : TypeId} {fr : Nat × Nat} (h : w.heap[g]? = some (.cells (cellsM (l ++ r)).toArray t fr)) : MSP w (some ⟨g, 0, none⟩) l := by
  refine .inr ⟨g, 0, rfl, fun i x hx => ?_⟩
  have hx' : (l ++ r)[i]? = some x := by
    rw [List.getElem?_append_left (List.getElem?_eq_some_iff.1 hx).1]; exact hx
  obtain ⟨h0, h1, h2⟩ := cellsM_get _ _ _ hx'
  unfold MgAt
  rw [cell_of_block h, cell_of_block h, cell_of_block h, Nat.zero_add]
  exact ⟨by simpa using h0, by simpa using h1, by simpa using h2⟩
set_option maxHeartbeats 800000 in
/-- Of two slices that hold the same merges, Same says so. -/
theorem sameM_any (a b : Option Addr) (ca cb : Nat) (l : List Mg) (w : World) (hlen : l.length ≤ 9223372036854775807) (ha : MSP w a l) (hb : MSP w b l) :
    Calls Try.prog 29 #[.slice a l.length ca, .slice b l.length cb] w fun e w' => e = .returned (.bool true) ∧ Below w.heap.size w w' := by
  obtain ⟨n, hn⟩ : ∃ n, n = l.length := ⟨_, rfl⟩
  have HN : Hid (n = l.length) := hn
  rw [← hn] at hlen ⊢
  clear hn
  have hne : ((n : Int) != (n : Int)) = false := by simp
  go_enter Try.func29, Try.ntmps29
  go_wp2
  go_loopw [5] (fun i wr => ∃ k : Nat, k ≤ n ∧ i = .int .i64 k ∧ Below w.heap.size w wr) (fun i _ => n - (intOf i).toNat)
  case atStart => exact ⟨0, Nat.zero_le _, rfl, Below.refl _ _⟩
  case round =>
    obtain ⟨k, hk, rfl, hbr⟩ := hrel
    by_cases hlt : k < n
    · have hkl : k < l.length := by rw [← HN.out]; exact hlt
      have hnil : l ≠ [] := fun e => by rw [e] at hkl; simp at hkl
      rcases ha with h | ⟨ga, oa, rfl, ha⟩
      · exact absurd h hnil
      rcases hb with h | ⟨gb, ob, rfl, hb⟩
      · exact absurd h hnil
      obtain ⟨x, hx⟩ : ∃ x, l[k]? = some x := ⟨l[k], List.getElem?_eq_getElem hkl⟩
      obtain ⟨a0, a1, a2⟩ := (ha k x hx).below hbr
      obtain ⟨b0, b1, b2⟩ := (hb k x hx).below hbr
      have HE := eqIn_mg x x true (mgEq_self x)
      have HF := neq_mg x x false (by rw [mgEq_self]; rfl)
      clear ha hb hnil hkl hx
      go_wp2_with fail
      go_quiet (fail)
      go_wp2_with fail
      exact ⟨⟨k + 1, by omega, by go_num, below_drewN hbr nq⟩, by simp only [intOf]; omega⟩
    · have hkn : k = n := by omega
      subst hkn
      go_wp2_with fail
      go_ret
      exact ⟨rfl, hbr⟩
set_option maxRecDepth 100000 in
set_option maxHeartbeats 2000000 in
theorem keepSame_any (a0 a1 a2 a3 a4 b0 b1 b2 b3 b4 : Option Addr) (c0 c1 c2 c3 c4 d0 d1 d2 d3 d4 : Nat) (ws : List ByteArray) (ms : List Mg) (A B C : List Sp) (w : World) (hn : ws.length ≤ 4611686018427387904 ∧ ms.length ≤ 4611686018427387904 ∧ A.length ≤ 4611686018427387904 ∧ B.length ≤ 4611686018427387904 ∧ C.length ≤ 4611686018427387904)
    (h0 : WSP w a0 ws) (h1 : MSP w a1 ms) (h2 : SPS w a2 A) (h3 : SPS w a3 B) (h4 : SPS w a4 C) (k0 : WSP w b0 ws) (k1 : MSP w b1 ms) (k2 : SPS w b2 A) (k3 : SPS w b3 B) (k4 : SPS w b4 C) :
    Calls Try.prog 18 #[.agg #[.slice a0 ws.length c0, .slice a1 ms.length c1, .slice a2 A.length c2, .slice a3 B.length c3, .slice a4 C.length c4], .agg #[.slice b0 ws.length d0, .slice b1 ms.length d1, .slice b2 A.length d2, .slice b3 B.length d3, .slice b4 C.length d4]] w fun e w' => e = .returned (.bool true) ∧ Below w.heap.size w w' := by
  have hX := DBox.new w (.slice a0 ws.length c0) (.slice a1 ms.length c1) (.slice a2 A.length c2) (.slice a3 B.length c3) (.slice a4 C.length c4)
  have bX := box_below w (.cells #[.slice a0 ws.length c0, .slice a1 ms.length c1, .slice a2 A.length c2, .slice a3 B.length c3, .slice a4 C.length c4] 27)
  obtain ⟨X, eX⟩ : ∃ X, X = w.alloc (.cells #[.slice a0 ws.length c0, .slice a1 ms.length c1, .slice a2 A.length c2, .slice a3 B.length c3, .slice a4 C.length c4] 27) := ⟨_, rfl⟩
  have sX : X.heap.size = w.heap.size + 1 := by rw [eX]; simp
  rw [← eX] at hX bX
  have hY := DBox.new X (.slice b0 ws.length d0) (.slice b1 ms.length d1) (.slice b2 A.length d2) (.slice b3 B.length d3) (.slice b4 C.length d4)
  have bY := box_below X (.cells #[.slice b0 ws.length d0, .slice b1 ms.length d1, .slice b2 A.length d2, .slice b3 B.length d3, .slice b4 C.length d4] 27)
  have hX2 := hX.below bY hX.lt
  have bZ := bX.trans (bY.mono bX.size)
  rw [sX] at hY
  obtain ⟨Y, eY⟩ : ∃ Y, Y = X.alloc (.cells #[.slice b0 ws.length d0, .slice b1 ms.length d1, .slice b2 A.length d2, .slice b3 B.length d3, .slice b4 C.length d4] 27) := ⟨_, rfl⟩
  rw [← eY] at hY bY hX2 bZ
  have e2 : (w.alloc (.cells #[.slice a0 ws.length c0, .slice a1 ms.length c1, .slice a2 A.length c2, .slice a3 B.length c3, .slice a4 C.length c4] 27)).alloc (.cells #[.slice b0 ws.length d0, .slice b1 ms.length d1, .slice b2 A.length d2, .slice b3 B.length d3, .slice b4 C.length d4] 27) = Y := by rw [eY, eX]
  have E2 : Hid (_ = Y) := e2
  have HX : Hid (DBox Y w.heap.size (.slice a0 ws.length c0) (.slice a1 ms.length c1) (.slice a2 A.length c2) (.slice a3 B.length c3) (.slice a4 C.length c4)) := hX2
  have HY : Hid (DBox Y (w.heap.size + 1) (.slice b0 ws.length d0) (.slice b1 ms.length d1) (.slice b2 A.length d2) (.slice b3 B.length d3) (.slice b4 C.length d4)) := hY
  have S0 := fun wx (hb : Below w.heap.size w wx) => sameW_any a0 b0 c0 d0 ws wx (by omega) (h0.below hb) (k0.below hb)
  have S1 := fun wx (hb : Below w.heap.size w wx) => sameM_any a1 b1 c1 d1 ms wx (by omega) (h1.below hb) (k1.below hb)
  have S2 := fun wx (hb : Below w.heap.size w wx) => same_any a2 b2 c2 d2 A wx (by omega) (h2.below hb) (k2.below hb)
  have S3 := fun wx (hb : Below w.heap.size w wx) => same_any a3 b3 c3 d3 B wx (by omega) (h3.below hb) (k3.below hb)
  have S4 := fun wx (hb : Below w.heap.size w wx) => same_any a4 b4 c4 d4 C wx (by omega) (h4.below hb) (k4.below hb)
  have u0 := cell_alloc_s hX.c0
  have u1 := cell_alloc_s hX.c1
  clear u0 u1 h0 h1 h2 h3 h4 k0 k1 k2 k3 k4 hX bX bY eY eX e2 hX2 hY sX
  go_enter Try.func18, Try.ntmps18
  go_wp2_with fail
  rw [E2.out]
  clear E2
  have go : ∀ wx, Below Y.heap.size Y wx → DBox wx w.heap.size (.slice a0 ws.length c0) (.slice a1 ms.length c1) (.slice a2 A.length c2) (.slice a3 B.length c3) (.slice a4 C.length c4) ∧ DBox wx (w.heap.size + 1) (.slice b0 ws.length d0) (.slice b1 ms.length d1) (.slice b2 A.length d2) (.slice b3 B.length d3) (.slice b4 C.length d4) := fun wx hb => ⟨HX.out.below hb HX.out.lt, HY.out.below hb HY.out.lt⟩
  have GO : Hid (∀ wx, Below Y.heap.size Y wx → DBox wx w.heap.size (.slice a0 ws.length c0) (.slice a1 ms.length c1) (.slice a2 A.length c2) (.slice a3 B.length c3) (.slice a4 C.length c4) ∧ DBox wx (w.heap.size + 1) (.slice b0 ws.length d0) (.slice b1 ms.length d1) (.slice b2 A.length d2) (.slice b3 B.length d3) (.slice b4 C.length d4)) := go
  clear go
  refine (S0 Y bZ).mono ?_
  rintro e w1 ⟨rfl, hb1⟩
  have B1 := hb1
  have t1 := (GO.out w1 B1).1.c1
  have t2 := (GO.out w1 B1).2.c1
  clear S0 hb1
  go_wp2_with fail
  refine (S1 w1 (bZ.trans (B1.mono bZ.size))).mono ?_
  rintro e w2 ⟨rfl, hb2⟩
  have B2 := B1.trans (hb2.mono B1.size)
  clear t1 t2 S1 hb2 B1
  have t1 := (GO.out w2 B2).1.c2
  have t2 := (GO.out w2 B2).2.c2
  go_wp2_with fail
  refine (S2 w2 (bZ.trans (B2.mono bZ.size))).mono ?_
  rintro e w3 ⟨rfl, hb3⟩
  have B3 := B2.trans (hb3.mono B2.size)
  clear t1 t2 S2 hb3 B2
  have t1 := (GO.out w3 B3).1.c3
  have t2 := (GO.out w3 B3).2.c3
  go_wp2_with fail
  refine (S3 w3 (bZ.trans (B3.mono bZ.size))).mono ?_
  rintro e w4 ⟨rfl, hb4⟩
  have B4 := B3.trans (hb4.mono B3.size)
  clear t1 t2 S3 hb4 B3
  have t1 := (GO.out w4 B4).1.c4
  have t2 := (GO.out w4 B4).2.c4
  go_wp2_with fail
  refine (S4 w4 (bZ.trans (B4.mono bZ.size))).mono ?_
  rintro e w5 ⟨rfl, hb5⟩
  have B5 := B4.trans (hb5.mono B4.size)
  clear t1 t2 S4 hb5 B4
  go_wp2_with fail
  go_ret
  exact ⟨rfl, bZ.trans (B5.mono bZ.size)⟩
end Go.Proofs.Ytonbfcpbgkpbaaa
