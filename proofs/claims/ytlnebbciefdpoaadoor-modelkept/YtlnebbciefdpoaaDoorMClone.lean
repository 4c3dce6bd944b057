/- strings.Clone; slices.Clone of words and of merges: their contracts. -/
import Derived.Test.YtlnebbciefdpoaaDoorMRefA
import Derived.Test.YtlnebbciefdpoaaDoorCNew
import Derived.Lib.UnsafeStr
import Derived.Lib.BufferWrite
namespace Go.Proofs.YtlnebbciefdpoaaDoor
open Go.RowKit Go.Sort Go.Joins
/-- The cells of words. -/
def cellsW (l : List ByteArray) : List Value := l.map Value.string
theorem cellsW_length (l : List ByteArray) : (cellsW l).length = l.length * 1 := by simp [cellsW]
theorem cellsW_get {l : List ByteArray} {i : Nat} {x : ByteArray} (h : l[i]? = some x) : (cellsW l)[i]? = some (.string x) := by simp [cellsW, h]
theorem cellsW_one (l : List ByteArray) : ∀ v ∈ cellsW l, v.oneCell' = true := by
  intro v hv
  simp [cellsW] at hv
  obtain ⟨c, _, rfl⟩ := hv
  rfl
/-- The cells of merges. -/
def cellsM (l : List Mg) : List Value := l.flatMap fun x => [.int .i64 x.l, .int .i64 x.r, .int .i64 x.i]
theorem cellsM_length (l : List Mg) : (cellsM l).length = l.length * 3 := by
  induction l with
  | nil => rfl
  | cons x l ih => simp only [cellsM, List.flatMap_cons, List.length_append, List.length_cons] at ih ⊢; rw [ih]; simp; omega
theorem cellsM_get (l : List Mg) (i : Nat) (x : Mg) (h : l[i]? = some x) : (cellsM l)[i * 3]? = some (.int .i64 x.l) ∧ (cellsM l)[i * 3 + 1]? = some (.int .i64 x.r) ∧ (cellsM l)[i * 3 + 2]? = some (.int .i64 x.i) := by
  induction l generalizing i with
  | nil => simp at h
  | cons y l ih =>
    cases i with
    | zero =>
      have : y = x := by simpa using h
      subst this
      exact ⟨rfl, rfl, rfl⟩
    | succ i =>
      have := ih i (by simpa using h)
      have e : cellsM (y :: l) = .int .i64 y.l :: .int .i64 y.r :: .int .i64 y.i :: cellsM l := rfl
      rw [e, show (i + 1) * 3 = i * 3 + 1 + 1 + 1 by omega, show i * 3 + 1 + 1 + 1 + 1 = (i * 3 + 1) + 1 + 1 + 1 from rfl, show i * 3 + 1 + 1 + 1 + 2 = (i * 3 + 2) + 1 + 1 + 1 from rfl]
      simpa using this
theorem cellsM_one (l : List Mg) : ∀ v ∈ cellsM l, v.oneCell' = true := by
  intro v hv
  simp [cellsM] at hv
  obtain ⟨c, _, h⟩ := hv
  rcases h with rfl | rfl | rfl <;> rfl
theorem WSP.cells {w : World} {x : Addr} {l : List ByteArray} (h : WSP w (some x) l) : ∀ j u, (cellsW l)[j]? = some u → w.cell? (x.add j) = some u := by
  intro j u hu
  rcases h with rfl | ⟨b, off, hx, hc⟩
  · simp [cellsW] at hu
  · obtain rfl := Option.some.inj hx
    have hj : j < l.length := by have := (List.getElem?_eq_some_iff.1 hu).1; rw [cellsW_length] at this; omega
    have hi : l[j]? = some l[j] := List.getElem?_eq_getElem hj
    rw [cellsW_get hi] at hu
    rw [Go.WideShapes.add_plain, hc j _ hi]
    exact hu
theorem MSP.cells {w : World} {x : Addr} {l : List Mg} (h : MSP w (some x) l) : ∀ j u, (cellsM l)[j]? = some u → w.cell? (x.add j) = some u := by
  intro j u hu
  rcases h with rfl | ⟨b, off, hx, hc⟩
  · simp [cellsM] at hu
  · obtain rfl := Option.some.inj hx
    have hj : j < (cellsM l).length := (List.getElem?_eq_some_iff.1 hu).1
    rw [cellsM_length] at hj
    have hi : l[j / 3]? = some l[j / 3] := List.getElem?_eq_getElem (by omega)
    obtain ⟨g0, g1, g2⟩ := cellsM_get _ _ _ hi
    obtain ⟨c0, c1, c2⟩ := hc _ _ hi
    rw [Go.WideShapes.add_plain]
    have h3 : j % 3 = 0 ∨ j % 3 = 1 ∨ j % 3 = 2 := by omega
    rcases h3 with e | e | e
    · have ej : j = j / 3 * 3 := by omega
      rw [ej, g0] at hu
      rw [ej, c0]
      exact hu
    · have ej : j = j / 3 * 3 + 1 := by omega
      rw [ej, g1] at hu
      rw [ej, ← Nat.add_assoc, c1]
      exact hu
    · have ej : j = j / 3 * 3 + 2 := by omega
      rw [ej, g2] at hu
      rw [ej, ← Nat.add_assoc, c2]
      exact hu
theorem infoW : (Tryd.prog.info? 9).map (fun i => (i.zero, i.size, i.bytes)) = some (some (.string ⟨#[]⟩), 1, 16) := by kernel_rfl
theorem infoM : (Tryd.prog.info? 36).map (fun i => (i.zero, i.size, i.bytes)) = some (some (.agg #[.int .i64 0, .int .i64 0, .int .i64 0]), 3, 24) := by kernel_rfl
theorem eqW_nil_none (n c : Nat) (W : World) : (binOp BinOp.eql 38 (.slice none n c) (.slice none 0 0)).run Tryd.prog W = .ok (.bool true) W := by kernel_rfl
theorem eqW_nil_some (x : Addr) (n c : Nat) (W : World) : (binOp BinOp.eql 38 (.slice (some x) n c) (.slice none 0 0)).run Tryd.prog W = .ok (.bool false) W := by kernel_rfl
theorem eqM_nil_none (n c : Nat) (W : World) : (binOp BinOp.eql 39 (.slice none n c) (.slice none 0 0)).run Tryd.prog W = .ok (.bool true) W := by kernel_rfl
theorem eqM_nil_some (x : Addr) (n c : Nat) (W : World) : (binOp BinOp.eql 39 (.slice (some x) n c) (.slice none 0 0)).run Tryd.prog W = .ok (.bool false) W := by kernel_rfl
/-- A list of words in memory of one's own, spare room and all. -/
def WPR (w : World) (lo : Nat) (a : Option Addr) (c : Nat) (l : List ByteArray) : Prop := (c = 0 ∧ l = []) ∨ ∃ g cur, a = some ⟨g, 0, none⟩ ∧ lo ≤ g ∧ w.heap[g]? = some (.cells cur 9 (0, 0)) ∧ cur.size = c * 1 ∧ ∀ (i : Nat) (x : ByteArray), l[i]? = some x → cur[i]? = some (.string x)
theorem WPR.below {w w' : World} {lo c : Nat} {a : Option Addr} {l : List ByteArray} (h : WPR w lo a c l) (hb : Below w.heap.size w w') : WPR w' lo a c l := by
  rcases h with h | ⟨g, cur, h1, h2, h3, h4⟩
  · exact .inl h
  · exact .inr ⟨g, cur, h1, h2, (hb.block g (Array.getElem?_eq_some_iff.1 h3).1).trans h3, h4⟩
theorem WPR.low {w : World} {lo lo' c : Nat} {a : Option Addr} {l : List ByteArray} (h : WPR w lo a c l) (hl : lo' ≤ lo) : WPR w lo' a c l := by
  rcases h with h | ⟨g, cur, h1, h2, h3⟩
  · exact .inl h
  · exact .inr ⟨g, cur, h1, by omega, h3⟩
theorem WPR.away {w : World} {lo c : Nat} {a : Option Addr} {l : List ByteArray} (h : WPR w lo a c l) {b o : Nat} (hb : b < lo) (v : Value) : WPR (w.setCell ⟨b, o, none⟩ v) lo a c l := by
  rcases h with h | ⟨g, cur, h1, h2, h3, h4⟩
  · exact .inl h
  · exact .inr ⟨g, cur, h1, h2, (Below.heap_setCell w ⟨b, o, none⟩ v g (fun e => by have e' : g = b := e; omega)).trans h3, h4⟩
theorem WPR.sp {w : World} {lo c : Nat} {a : Option Addr} {l : List ByteArray} (h : WPR w lo a c l) : WSP w a l := by
  rcases h with ⟨-, h⟩ | ⟨g, cur, rfl, h2, h3, h4, h5⟩
  · exact .inl h
  · exact .inr ⟨g, 0, rfl, fun i x hx => by rw [cell_of_block h3, Nat.zero_add]; exact h5 i x hx⟩
/-- Appending words to a new, empty list. -/
theorem appW (x : Addr) (cap : Nat) (l : List ByteArray) (w : World) (hlen : l.length ≤ 8796093022208) (h : WSP w (some x) l) :
    ∃ a' c' w', (Builtin.append_ #[38, 38] 38 #[.slice (some ⟨w.heap.size, 0, none⟩) 0 0, .slice (some x) l.length cap]).run Tryd.prog (w.alloc (.cells #[] 9)) = .ok (.slice a' l.length c') w' ∧ l.length ≤ c' ∧ c' ≤ 9223372036854775807 ∧ WPR w' w.heap.size a' c' l ∧ Below w.heap.size w w' := by
  obtain ⟨i0, hi, hz0, hz1, hz2⟩ := info_parts infoW
  have hb := box_below w (.cells #[] 9)
  have hown : (w.alloc (.cells #[] 9)).ownsRow w.heap.size 9 1 (.slice (some ⟨w.heap.size, 0, none⟩) 0 0) 0 [] :=
    ⟨rfl, .inr ⟨w.heap.size, 0, #[], rfl, Nat.le_refl _, heap_alloc_new w _, Nat.le_refl _, by simp [maxLen], rfl, rfl⟩⟩
  obtain ⟨v', w', h1, h2, h3, h4⟩ := run_append_own (P := Tryd.prog) (w.alloc (.cells #[] 9)) w.heap.size 38 38 9 i0 _ 1 16 Tryd.underlying38 hi hz0 hz1 hz2 rfl (by decide) _ 0 [] hown x l.length cap (cellsW l) (cellsW_length l) (h.below hb).cells (cellsW_one l) (by unfold maxLen; omega) (by omega) (by simp)
  rw [Nat.zero_add, List.nil_append] at h2
  have hB : Below w.heap.size w w' := hb.grown h3 (by simp) (fun k hk => by
    have : k = w.heap.size := by simpa [Value.ownBlock] using hk.symm
    omega)
  rcases h2.2 with ⟨hv, _⟩ | ⟨g, c, cur, hv, hg, hh, hn, hm, hs, ht⟩
  · have := (h4.1 hv).1
    cases this
  · subst hv
    refine ⟨_, c, w', h1, hn, by simpa [maxLen] using hm, .inr ⟨g, cur, rfl, hg, hh, by omega, fun i y hy => ?_⟩, hB⟩
    have hi : i < l.length := (List.getElem?_eq_some_iff.1 hy).1
    have q0 := cellsW_get hy
    rw [← ht] at q0
    rw [List.getElem?_take_of_lt (by omega)] at q0
    simpa using q0
/-- A list of words of one's own. -/
structure OwnW (w : World) (lo : Nat) (a : Option Addr) (c : Nat) (l : List ByteArray) : Prop where
  le : l.length ≤ c
  cap : c ≤ 9223372036854775807
  row : WPR w lo a c l
theorem OwnW.below {w w' : World} {lo c : Nat} {a : Option Addr} {l : List ByteArray} (h : OwnW w lo a c l) (hb : Below w.heap.size w w') : OwnW w' lo a c l := ⟨h.le, h.cap, h.row.below hb⟩
theorem OwnW.low {w : World} {lo lo' c : Nat} {a : Option Addr} {l : List ByteArray} (h : OwnW w lo a c l) (hl : lo' ≤ lo) : OwnW w lo' a c l := ⟨h.le, h.cap, h.row.low hl⟩
theorem OwnW.away {w : World} {lo c : Nat} {a : Option Addr} {l : List ByteArray} (h : OwnW w lo a c l) {b o : Nat} (hb : b < lo) (v : Value) : OwnW (w.setCell ⟨b, o, none⟩ v) lo a c l := ⟨h.le, h.cap, h.row.away hb v⟩
set_option maxHeartbeats 1000000 in
theorem cloneW_any (a : Option Addr) (cap : Nat) (l : List ByteArray) (w : World) (hlen : l.length ≤ 8796093022208) (h : WSP w a l) :
    Calls Tryd.prog 61 #[.slice a l.length cap] w fun e w' => ∃ a' c', e = .returned (.slice a' l.length c') ∧ OwnW w' w.heap.size a' c' l ∧ Below w.heap.size w w' := by
  cases a with
  | none =>
    have hl : l = [] := by
      rcases h with h | ⟨b, off, h, _⟩
      · exact h
      · cases h
    subst hl
    have he := eqW_nil_none 0 cap
    simp only [List.length_nil]
    go_enter Tryd.func61, Tryd.ntmps61
    go_wp2_with fail
    go_ret
    exact ⟨none, 0, rfl, ⟨Nat.le_refl _, by omega, .inl ⟨rfl, rfl⟩⟩, Below.refl _ _⟩
  | some x =>
    have he := eqW_nil_some x l.length cap
    obtain ⟨a', c', w', h1, h2, h3, h4, hB⟩ := appW x cap l w hlen h
    clear h
    go_enter Tryd.func61, Tryd.ntmps61
    go_wp2_with (at_builtin; refine wpList_append_run rfl (.tmp 5) (.tmp 6) 38 38 rfl _ _ rfl rfl _ w' h1 ?_)
    go_ret
    exact ⟨a', c', rfl, ⟨h2, h3, h4⟩, hB⟩
/-- A list of merges in memory of one's own, spare room and all. -/
def MPR (w : World) (lo : Nat) (a : Option Addr) (c : Nat) (l : List Mg) : Prop := (c = 0 ∧ l = []) ∨ ∃ g cur, a = some ⟨g, 0, none⟩ ∧ lo ≤ g ∧ w.heap[g]? = some (.cells cur 36 (0, 0)) ∧ cur.size = c * 3 ∧ ∀ (i : Nat) (x : Mg), l[i]? = some x → cur[i * 3]? = some (.int .i64 x.l) ∧ cur[i * 3 + 1]? = some (.int .i64 x.r) ∧ cur[i * 3 + 2]? = some (.int .i64 x.i)
theorem MPR.below {w w' : World} {lo c : Nat} {a : Option Addr} {l : List Mg} (h : MPR w lo a c l) (hb : Below w.heap.size w w') : MPR w' lo a c l := by
  rcases h with h | ⟨g, cur, h1, h2, h3, h4⟩
  · exact .inl h
  · exact .inr ⟨g, cur, h1, h2, (hb.block g (Array.getElem?_eq_some_iff.1 h3).1).trans h3, h4⟩
theorem MPR.low {w : World} {lo lo' c : Nat} {a : Option Addr} {l : List Mg} (h : MPR w lo a c l) (hl : lo' ≤ lo) : MPR w lo' a c l := by
  rcases h with h | ⟨g, cur, h1, h2, h3⟩
  · exact .inl h
  · exact .inr ⟨g, cur, h1, by omega, h3⟩
theorem MPR.away {w : World} {lo c : Nat} {a : Option Addr} {l : List Mg} (h : MPR w lo a c l) {b o : Nat} (hb : b < lo) (v : Value) : MPR (w.setCell ⟨b, o, none⟩ v) lo a c l := by
  rcases h with h | ⟨g, cur, h1, h2, h3, h4⟩
  · exact .inl h
  · exact .inr ⟨g, cur, h1, h2, (Below.heap_setCell w ⟨b, o, none⟩ v g (fun e => by have e' : g = b := e; omega)).trans h3, h4⟩
theorem MPR.sp {w : World} {lo c : Nat} {a : Option Addr} {l : List Mg} (h : MPR w lo a c l) : MSP w a l := by
  rcases h with ⟨-, h⟩ | ⟨g, cur, rfl, h2, h3, h4, h5⟩
  · exact .inl h
  · exact .inr ⟨g, 0, rfl, fun i x hx => ⟨by rw [cell_of_block h3, Nat.zero_add]; exact (h5 i x hx).1, by rw [cell_of_block h3, Nat.zero_add]; exact (h5 i x hx).2.1, by rw [cell_of_block h3, Nat.zero_add]; exact (h5 i x hx).2.2⟩⟩
/-- Appending merges to a new, empty list. -/
theorem appM (x : Addr) (cap : Nat) (l : List Mg) (w : World) (hlen : l.length ≤ 5864062014805) (h : MSP w (some x) l) :
    ∃ a' c' w', (Builtin.append_ #[39, 39] 39 #[.slice (some ⟨w.heap.size, 0, none⟩) 0 0, .slice (some x) l.length cap]).run Tryd.prog (w.alloc (.cells #[] 36)) = .ok (.slice a' l.length c') w' ∧ l.length ≤ c' ∧ c' ≤ 9223372036854775807 ∧ MPR w' w.heap.size a' c' l ∧ Below w.heap.size w w' := by
  obtain ⟨i0, hi, hz0, hz1, hz2⟩ := info_parts infoM
  have hb := box_below w (.cells #[] 36)
  have hown : (w.alloc (.cells #[] 36)).ownsRow w.heap.size 36 3 (.slice (some ⟨w.heap.size, 0, none⟩) 0 0) 0 [] :=
    ⟨rfl, .inr ⟨w.heap.size, 0, #[], rfl, Nat.le_refl _, heap_alloc_new w _, Nat.le_refl _, by simp [maxLen], rfl, rfl⟩⟩
  obtain ⟨v', w', h1, h2, h3, h4⟩ := run_append_own (P := Tryd.prog) (w.alloc (.cells #[] 36)) w.heap.size 39 39 36 i0 _ 3 24 Tryd.underlying39 hi hz0 hz1 hz2 rfl (by decide) _ 0 [] hown x l.length cap (cellsM l) (cellsM_length l) (h.below hb).cells (cellsM_one l) (by unfold maxLen; omega) (by omega) (by simp)
  rw [Nat.zero_add, List.nil_append] at h2
  have hB : Below w.heap.size w w' := hb.grown h3 (by simp) (fun k hk => by
    have : k = w.heap.size := by simpa [Value.ownBlock] using hk.symm
    omega)
  rcases h2.2 with ⟨hv, _⟩ | ⟨g, c, cur, hv, hg, hh, hn, hm, hs, ht⟩
  · have := (h4.1 hv).1
    cases this
  · subst hv
    refine ⟨_, c, w', h1, hn, by simpa [maxLen] using hm, .inr ⟨g, cur, rfl, hg, hh, by omega, fun i y hy => ?_⟩, hB⟩
    have hi : i < l.length := (List.getElem?_eq_some_iff.1 hy).1
    obtain ⟨q0, q1, q2⟩ := cellsM_get _ _ _ hy
    rw [← ht] at q0 q1 q2
    rw [List.getElem?_take_of_lt (by omega)] at q0 q1 q2
    exact ⟨by simpa using q0, by simpa using q1, by simpa using q2⟩
/-- A list of merges of one's own. -/
structure OwnM (w : World) (lo : Nat) (a : Option Addr) (c : Nat) (l : List Mg) : Prop where
  le : l.length ≤ c
  cap : c ≤ 9223372036854775807
  row : MPR w lo a c l
theorem OwnM.below {w w' : World} {lo c : Nat} {a : Option Addr} {l : List Mg} (h : OwnM w lo a c l) (hb : Below w.heap.size w w') : OwnM w' lo a c l := ⟨h.le, h.cap, h.row.below hb⟩
theorem OwnM.low {w : World} {lo lo' c : Nat} {a : Option Addr} {l : List Mg} (h : OwnM w lo a c l) (hl : lo' ≤ lo) : OwnM w lo' a c l := ⟨h.le, h.cap, h.row.low hl⟩
theorem OwnM.away {w : World} {lo c : Nat} {a : Option Addr} {l : List Mg} (h : OwnM w lo a c l) {b o : Nat} (hb : b < lo) (v : Value) : OwnM (w.setCell ⟨b, o, none⟩ v) lo a c l := ⟨h.le, h.cap, h.row.away hb v⟩
set_option maxHeartbeats 1000000 in
theorem cloneM_any (a : Option Addr) (cap : Nat) (l : List Mg) (w : World) (hlen : l.length ≤ 5864062014805) (h : MSP w a l) :
    Calls Tryd.prog 63 #[.slice a l.length cap] w fun e w' => ∃ a' c', e = .returned (.slice a' l.length c') ∧ OwnM w' w.heap.size a' c' l ∧ Below w.heap.size w w' := by
  cases a with
  | none =>
    have hl : l = [] := by
      rcases h with h | ⟨b, off, h, _⟩
      · exact h
      · cases h
    subst hl
    have he := eqM_nil_none 0 cap
    simp only [List.length_nil]
    go_enter Tryd.func63, Tryd.ntmps63
    go_wp2_with fail
    go_ret
    exact ⟨none, 0, rfl, ⟨Nat.le_refl _, by omega, .inl ⟨rfl, rfl⟩⟩, Below.refl _ _⟩
  | some x =>
    have he := eqM_nil_some x l.length cap
    obtain ⟨a', c', w', h1, h2, h3, h4, hB⟩ := appM x cap l w hlen h
    clear h
    go_enter Tryd.func63, Tryd.ntmps63
    go_wp2_with (at_builtin; refine wpList_append_run rfl (.tmp 5) (.tmp 6) 39 39 rfl _ _ rfl rfl _ w' h1 ?_)
    go_ret
    exact ⟨a', c', rfl, ⟨h2, h3, h4⟩, hB⟩
/-- A list of spans in memory of one's own, spare room and all. -/
def SPRc (w : World) (lo : Nat) (a : Option Addr) (c : Nat) (l : List Sp) : Prop := (c = 0 ∧ l = []) ∨ ∃ g cur, a = some ⟨g, 0, none⟩ ∧ lo ≤ g ∧ w.heap[g]? = some (.cells cur 30 (0, 0)) ∧ cur.size = c * 2 ∧ ∀ (i : Nat) (x : Sp), l[i]? = some x → cur[i * 2]? = some (.int .i32 x.lo) ∧ cur[i * 2 + 1]? = some (.int .i32 x.hi)
theorem SPRc.below {w w' : World} {lo c : Nat} {a : Option Addr} {l : List Sp} (h : SPRc w lo a c l) (hb : Below w.heap.size w w') : SPRc w' lo a c l := by
  rcases h with h | ⟨g, cur, h1, h2, h3, h4⟩
  · exact .inl h
  · exact .inr ⟨g, cur, h1, h2, (hb.block g (Array.getElem?_eq_some_iff.1 h3).1).trans h3, h4⟩
theorem SPRc.low {w : World} {lo lo' c : Nat} {a : Option Addr} {l : List Sp} (h : SPRc w lo a c l) (hl : lo' ≤ lo) : SPRc w lo' a c l := by
  rcases h with h | ⟨g, cur, h1, h2, h3⟩
  · exact .inl h
  · exact .inr ⟨g, cur, h1, by omega, h3⟩
theorem SPRc.away {w : World} {lo c : Nat} {a : Option Addr} {l : List Sp} (h : SPRc w lo a c l) {b o : Nat} (hb : b < lo) (v : Value) : SPRc (w.setCell ⟨b, o, none⟩ v) lo a c l := by
  rcases h with h | ⟨g, cur, h1, h2, h3, h4⟩
  · exact .inl h
  · exact .inr ⟨g, cur, h1, h2, (Below.heap_setCell w ⟨b, o, none⟩ v g (fun e => by have e' : g = b := e; omega)).trans h3, h4⟩
theorem SPRc.sp {w : World} {lo c : Nat} {a : Option Addr} {l : List Sp} (h : SPRc w lo a c l) : SPS w a l := by
  rcases h with ⟨-, h⟩ | ⟨g, cur, rfl, h2, h3, h4, h5⟩
  · exact .inl h
  · exact .inr ⟨g, 0, rfl, fun i x hx => ⟨by rw [cell_of_block h3, Nat.zero_add]; exact (h5 i x hx).1, by rw [cell_of_block h3, Nat.zero_add]; exact (h5 i x hx).2⟩⟩
/-- Appending spans to a new, empty list. -/
theorem appS (x : Addr) (cap : Nat) (l : List Sp) (w : World) (hlen : l.length ≤ 17592186044416) (h : SPS w (some x) l) :
    ∃ a' c' w', (Builtin.append_ #[31, 31] 31 #[.slice (some ⟨w.heap.size, 0, none⟩) 0 0, .slice (some x) l.length cap]).run Tryd.prog (w.alloc (.cells #[] 30)) = .ok (.slice a' l.length c') w' ∧ l.length ≤ c' ∧ c' ≤ 9223372036854775807 ∧ SPRc w' w.heap.size a' c' l ∧ Below w.heap.size w w' := by
  obtain ⟨i0, hi, hz0, hz1, hz2⟩ := info_parts info26
  have hb := box_below w (.cells #[] 30)
  have hown : (w.alloc (.cells #[] 30)).ownsRow w.heap.size 30 2 (.slice (some ⟨w.heap.size, 0, none⟩) 0 0) 0 [] :=
    ⟨rfl, .inr ⟨w.heap.size, 0, #[], rfl, Nat.le_refl _, heap_alloc_new w _, Nat.le_refl _, by simp [maxLen], rfl, rfl⟩⟩
  obtain ⟨v', w', h1, h2, h3, h4⟩ := run_append_own (P := Tryd.prog) (w.alloc (.cells #[] 30)) w.heap.size 31 31 30 i0 _ 2 8 Tryd.underlying31 hi hz0 hz1 hz2 rfl (by decide) _ 0 [] hown x l.length cap (cellsS l) (cellsS_length l) (h.below hb).cells (cellsS_one l) (by unfold maxLen; omega) (by omega) (by simp)
  rw [Nat.zero_add, List.nil_append] at h2
  have hB : Below w.heap.size w w' := hb.grown h3 (by simp) (fun k hk => by
    have : k = w.heap.size := by simpa [Value.ownBlock] using hk.symm
    omega)
  rcases h2.2 with ⟨hv, _⟩ | ⟨g, c, cur, hv, hg, hh, hn, hm, hs, ht⟩
  · have := (h4.1 hv).1
    cases this
  · subst hv
    refine ⟨_, c, w', h1, hn, by simpa [maxLen] using hm, .inr ⟨g, cur, rfl, hg, hh, by omega, fun i y hy => ?_⟩, hB⟩
    have hi : i < l.length := (List.getElem?_eq_some_iff.1 hy).1
    obtain ⟨q0, q1⟩ := cellsS_get _ _ _ hy
    rw [← ht] at q0 q1
    rw [List.getElem?_take_of_lt (by omega)] at q0 q1
    exact ⟨by simpa using q0, by simpa using q1⟩
/-- A list of spans of one's own. -/
structure OwnS (w : World) (lo : Nat) (a : Option Addr) (c : Nat) (l : List Sp) : Prop where
  le : l.length ≤ c
  cap : c ≤ 9223372036854775807
  row : SPRc w lo a c l
theorem OwnS.below {w w' : World} {lo c : Nat} {a : Option Addr} {l : List Sp} (h : OwnS w lo a c l) (hb : Below w.heap.size w w') : OwnS w' lo a c l := ⟨h.le, h.cap, h.row.below hb⟩
theorem OwnS.low {w : World} {lo lo' c : Nat} {a : Option Addr} {l : List Sp} (h : OwnS w lo a c l) (hl : lo' ≤ lo) : OwnS w lo' a c l := ⟨h.le, h.cap, h.row.low hl⟩
theorem OwnS.away {w : World} {lo c : Nat} {a : Option Addr} {l : List Sp} (h : OwnS w lo a c l) {b o : Nat} (hb : b < lo) (v : Value) : OwnS (w.setCell ⟨b, o, none⟩ v) lo a c l := ⟨h.le, h.cap, h.row.away hb v⟩
set_option maxHeartbeats 1000000 in
theorem cloneS_any (a : Option Addr) (cap : Nat) (l : List Sp) (w : World) (hlen : l.length ≤ 17592186044416) (h : SPS w a l) :
    Calls Tryd.prog 64 #[.slice a l.length cap] w fun e w' => ∃ a' c', e = .returned (.slice a' l.length c') ∧ OwnS w' w.heap.size a' c' l ∧ Below w.heap.size w w' := by
  cases a with
  | none =>
    have hl : l = [] := by
      rcases h with h | ⟨b, off, h, _⟩
      · exact h
      · cases h
    subst hl
    have he := eq_nil_none 0 cap
    simp only [List.length_nil]
    go_enter Tryd.func64, Tryd.ntmps64
    go_wp2_with fail
    go_ret
    exact ⟨none, 0, rfl, ⟨Nat.le_refl _, by omega, .inl ⟨rfl, rfl⟩⟩, Below.refl _ _⟩
  | some x =>
    have he := eq_nil_some x l.length cap
    obtain ⟨a', c', w', h1, h2, h3, h4, hB⟩ := appS x cap l w hlen h
    clear h
    go_enter Tryd.func64, Tryd.ntmps64
    go_wp2_with (at_builtin; refine wpList_append_run rfl (.tmp 5) (.tmp 6) 31 31 rfl _ _ rfl rfl _ w' h1 ?_)
    go_ret
    exact ⟨a', c', rfl, ⟨h2, h3, h4⟩, hB⟩
theorem OwnS.ownL {w : World} {lo c : Nat} {a : Option Addr} {l : List Sp} (h : OwnS w lo a c l) : OwnL w lo a c l := ⟨h.le, h.cap, by
  rcases h.row with ⟨-, h⟩ | ⟨g, cur, h1, h2, h3, h4, h5⟩
  · exact .inl h
  · exact .inr ⟨g, cur, h1, h2, h3, h5⟩⟩
end Go.Proofs.YtlnebbciefdpoaaDoor
