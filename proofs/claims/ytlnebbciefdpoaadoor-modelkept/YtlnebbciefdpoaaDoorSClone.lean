/- slices.Clone of spans, spans.All, tesserabook.Within: their contracts. -/
import Derived.Test.YtlnebbciefdpoaaDoorSRoomy
import Derived.Test.YtlnebbciefdpoaaDoorAppRun
import Derived.Lib.AppendStr
import Derived.RangeFuncBox
import Derived.OwnWalk
namespace Go.Proofs.YtlnebbciefdpoaaDoor
open Go.RowKit Go.Sort Go.Joins
/-- A list of spans in memory of one's own: its row's block is known. -/
def SPR (w : World) (lo : Nat) (a : Option Addr) (l : List Sp) : Prop := l = [] ∨ ∃ g cur, a = some ⟨g, 0, none⟩ ∧ lo ≤ g ∧ w.heap[g]? = some (.cells cur 30 (0, 0)) ∧ ∀ i x, l[i]? = some x → cur[i * 2]? = some (.int .i32 x.lo) ∧ cur[i * 2 + 1]? = some (.int .i32 x.hi)
theorem SPR.below {w w' : World} {lo : Nat} {a : Option Addr} {l : List Sp} (h : SPR w lo a l) (hb : Below w.heap.size w w') : SPR w' lo a l := by
  rcases h with h | ⟨g, cur, h1, h2, h3, h4⟩
  · exact .inl h
  · exact .inr ⟨g, cur, h1, h2, (hb.block g (Array.getElem?_eq_some_iff.1 h3).1).trans h3, h4⟩
/-- What a copy of a list is. -/
def Copied (w : World) (lo : Nat) (v : Value) (l : List Sp) : Prop := ∃ a cap, v = .slice a l.length cap ∧ l.length ≤ cap ∧ cap ≤ 9223372036854775807 ∧ SPR w lo a l
theorem eq_nil_none (n c : Nat) (W : World) : (binOp BinOp.eql 31 (.slice none n c) (.slice none 0 0)).run Tryd.prog W = .ok (.bool true) W := by kernel_rfl
theorem eq_nil_some (x : Addr) (n c : Nat) (W : World) : (binOp BinOp.eql 31 (.slice (some x) n c) (.slice none 0 0)).run Tryd.prog W = .ok (.bool false) W := by kernel_rfl
theorem clone_any (a : Option Addr) (cap : Nat) (l : List Sp) (w : World) (hlen : l.length ≤ 17592186044416) (h : SPS w a l) :
    Calls Tryd.prog 64 #[.slice a l.length cap] w fun e w' => ∃ v, e = .returned v ∧ Copied w' w.heap.size v l ∧ Below w.heap.size w w' := by
  cases a with
  | none =>
    have hl : l = [] := by
      rcases h with h | ⟨b, off, h, _⟩
      · exact h
      · cases h
    subst hl
    have he := eq_nil_none 0 cap
    simp only [List.length_nil]
    go_enter Tryd.func64, Tryd.ntmps64
    go_wp2_with fail
    go_ret
    exact ⟨_, rfl, ⟨none, 0, rfl, Nat.le_refl _, by omega, .inl rfl⟩, Below.refl _ _⟩
  | some x =>
    obtain ⟨i0, hi, hz0, hz1, hz2⟩ := info_parts info26
    have he := eq_nil_some x l.length cap
    have hb : Below w.heap.size w (w.alloc (.cells #[] 30)) := (Below.refl _ w).alloc (Nat.le_refl _) _
    have hown : (w.alloc (.cells #[] 30)).ownsRow w.heap.size 30 2 (.slice (some ⟨w.heap.size, 0, none⟩) 0 0) 0 [] :=
      ⟨rfl, .inr ⟨w.heap.size, 0, #[], rfl, Nat.le_refl _, heap_alloc_new w _, Nat.le_refl _, by simp [maxLen], rfl, rfl⟩⟩
    obtain ⟨v', w', h1, h2, h3, h4⟩ := run_append_own (P := Tryd.prog) (w.alloc (.cells #[] 30)) w.heap.size 31 31 30 i0 _ 2 8 Tryd.underlying31 hi hz0 hz1 hz2 rfl (by decide) _ 0 [] hown x l.length cap (cellsS l) (cellsS_length l) (h.below hb).cells (cellsS_one l) (by unfold maxLen; omega) (by omega) (by simp)
    rw [Nat.zero_add, List.nil_append] at h2
    have hB : Below w.heap.size w w' := hb.grown h3 (by simp) (fun k hk => by
      have : k = w.heap.size := by simpa [Value.ownBlock] using hk.symm
      omega)
    have hC : Copied w' w.heap.size v' l := by
      rcases h2.2 with ⟨hv, _⟩ | ⟨g, c, cur, hv, hg, hh, hn, hm, hs, ht⟩
      · have := (h4.1 hv).1
        cases this
      · refine ⟨_, _, hv, hn, by simpa [maxLen] using hm, .inr ⟨g, cur, rfl, hg, hh, fun i y hy => ?_⟩⟩
        have hi : i < l.length := (List.getElem?_eq_some_iff.1 hy).1
        obtain ⟨q0, q1⟩ := cellsS_get _ _ _ hy
        rw [← ht] at q0 q1
        rw [List.getElem?_take_of_lt (by omega)] at q0 q1
        exact ⟨by simpa using q0, by simpa using q1⟩
    clear hown h2 h3 h4 hb h
    go_enter Tryd.func64, Tryd.ntmps64
    go_wp2_with (at_builtin; refine wpList_append_run rfl (.tmp 5) (.tmp 6) 31 31 rfl _ _ rfl rfl _ w' h1 ?_)
    go_ret
    exact ⟨_, rfl, hC, hB⟩
theorem ret_i64 {a b : Int} (h : a = b) : Ending.returned (.int .i64 a) = .returned (.int .i64 b) := by rw [h]
/-- A number brought between one and h. -/
theorem within_any (n : Int) (h : Nat) (h0 : 1 ≤ h) (hh : h ≤ 4294967296) (w : World) :
    Calls Tryd.prog 25 #[.int .i64 n, .int .i64 1, .int .i64 (h : Nat)] w fun e w' => ∃ k : Nat, 1 ≤ k ∧ k ≤ h ∧ e = .returned (.int .i64 k) ∧ w' = w := by
  have h1 : ((h : Int) - 1 + 1 == 0) = false := by simp; omega
  have h1' : ((h : Int) == 0) = false := by simp; omega
  have t1 : n.tmod (h : Int) < (h : Int) := Int.tmod_lt_of_pos _ (by omega)
  have t2 : -(h : Int) < n.tmod (h : Int) := by
    have := Int.lt_tmod_of_pos n (b := (h : Int)) (by omega)
    omega
  have e : (h : Int) - 1 + 1 = h := by omega
  by_cases hp : n.tmod (h : Int) < 0
  · go_enter Tryd.func25, Tryd.ntmps25
    go_wp2
    go_ret
    exact ⟨(1 + (n.tmod (h : Int) + h)).toNat, by omega, by omega, ret_i64 (by simp; omega), rfl⟩
  · have hp' : 0 ≤ n.tmod (h : Int) := by omega
    clear hp
    go_enter Tryd.func25, Tryd.ntmps25
    go_wp2
    go_ret
    exact ⟨(1 + n.tmod (h : Int)).toNat, by omega, by omega, ret_i64 (by simp; omega), rfl⟩
end Go.Proofs.YtlnebbciefdpoaaDoor
