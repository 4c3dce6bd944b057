import Derived.Test.YtplmmamebfpcjaaDoorJ0
import Derived.Test.YtplmmamebfpcjaaDoorRows
import Derived.Lib.SmallJoins
import Derived.Test.YtplmmamebfpcjaaDoorProg
import Derived.Lib.AppendStr
import Derived.WalkKit
import Derived.ProofKit
import Derived.OpenShut
import Derived.WalkSpells
import Derived.WalkLawsBesides
import Derived.Laws.BitsAllLaws
import Derived.KernelRfl
import Derived.Below
import Derived.Deep.QuietTactic
import Derived.BigQuiet
import Derived.Laws.StructEq
section
/- octet.GetText: its contract. -/
namespace Go.Proofs.YtplmmamebfpcjaaDoor.Oc
set_option maxRecDepth 100000
open Go.RowKit
theorem getR_lt (l : List UInt8) (i : Int) : (getR l i).1 < 4294967296 := by
  unfold getR
  split
  · simp
  · split
    · simp
    · exact num4_lt _ _
theorem getR_ok (l : List UInt8) (i : Int) (h : (getR l i).2.2 = 0) : ∃ k : Nat, i = k ∧ k + 4 ≤ l.length ∧ getR l i = (num4 l k, (k : Int) + 4, 0) := by
  unfold getR at h ⊢
  by_cases h1 : i < 0 ∨ (l.length : Int) < i
  · rw [if_pos h1] at h; simp at h
  · rw [if_neg h1] at h ⊢
    by_cases h2 : (l.length : Int) - i < 4
    · rw [if_pos h2] at h; simp at h
    · rw [if_neg h2]
      exact ⟨i.toNat, by omega, by omega, by simp; omega⟩
theorem getR_bad (l : List UInt8) (i : Int) (h : (getR l i).2.2 ≠ 0) : getR l i = (0, 0, (getR l i).2.2) := by
  unfold getR at h ⊢
  split
  · rfl
  · split
    · rfl
    · rename_i h1 h2; rw [if_neg h1, if_neg h2] at h; simp at h
/-- A text of these bytes. -/
def textOf (l : List UInt8) : ByteArray := ⟨l.toArray⟩
/-- What GetText answers. -/
def getTextR (l : List UInt8) (i most : Int) : List UInt8 × Int × Int :=
  if (getR l i).2.2 ≠ 0 then ([], 0, (getR l i).2.2) else
  if most < (getR l i).1 then ([], 0, 3) else
  if (l.length : Int) - (getR l i).2.1 < (getR l i).1 then ([], 0, 10) else
  ((l.drop (getR l i).2.1.toNat).take (getR l i).1, (getR l i).2.1 + (getR l i).1, 0)
theorem text_bytes {P : Program} (src e dst : TypeId) (hs : P.underlying src = some (.slice e)) (he : P.underlying e = some (.int .u8)) (hd : P.underlying dst = some .string)
    (b off cap : Nat) (l : List UInt8) (w : World) (hc : ∀ j, j < l.length → w.cell? ⟨b, off + j, none⟩ = some (.int .u8 ((l.getD j 0).toNat : Int))) :
    (convert src dst (.slice (some ⟨b, off, none⟩) l.length cap)).run P w = .ok (.string (textOf l)) w := by
  have h := run_convert_bytes_arg (P := P) w src e hs he b off l.length cap (l.map fun c => (c.toNat : Int)) (by simp) (fun j hj => by
    rw [hc j hj]; simp [List.getD, List.getElem?_eq_getElem hj]) dst hd
  rw [h]
  congr 2
  simp [strOfNums, textOf, List.map_map]
  apply List.ext_getElem
  · simp
  · intro j h1 h2; simp
theorem text_zero {P : Program} (src e dst : TypeId) (hs : P.underlying src = some (.slice e)) (he : P.underlying e = some (.int .u8)) (hd : P.underlying dst = some .string)
    (a : Option Addr) (cap : Nat) (w : World) : (convert src dst (.slice a 0 cap)).run P w = .ok (.string (textOf [])) w := by
  cases a with
  | none => exact run_convert_bytes_nil (P := P) w src e hs he 0 cap dst hd
  | some x =>
    have hl : (loadCells x 0).run P w = .ok #[] w := by rfl
    rw [run_convert_bytes_string w src dst e _ 0 cap hs he hd, run_bytesToString w x 0 cap [] (by simpa using hl)]
    rfl
set_option maxHeartbeats 400000 in
theorem gettext_some (b off cap : Nat) (l : List UInt8) (k : Nat) (most : Int) (w : World) (hlen : l.length ≤ 9223372036854775807) (hcap : l.length ≤ cap) (h4 : k + 4 ≤ l.length)
    (hm1 : -9223372036854775808 ≤ most) (hm2 : most ≤ 9223372036854775807)
    (hc : ∀ j, j < l.length → w.cell? ⟨b, off + j, none⟩ = some (.int .u8 ((l.getD j 0).toNat : Int))) (hg : getR l k = (num4 l k, (k : Int) + 4, 0)) :
    Calls Tryd.prog 57 #[.slice (some ⟨b, off, none⟩) l.length cap, .int .i64 k, .int .i64 most] w fun e w' =>
      e = .returned (.tuple #[.string (textOf (getTextR l k most).1), .int .i64 (getTextR l k most).2.1, .int .i64 (getTextR l k most).2.2]) ∧ Below w.heap.size w w' := by
  have hget := get_some b off cap l k w hlen h4 hcap hc
  have hn := num4_lt l k
  unfold getTextR
  simp only [hg]
  obtain ⟨n, hnd⟩ : ∃ n, n = num4 l k := ⟨_, rfl⟩
  rw [← hnd] at hget hn ⊢
  clear hnd hg
  by_cases h1 : most < 0
  · have hmn : most < n := by omega
    simp only [ne_eq, not_true_eq_false, if_false, if_pos hmn]
    go_enter Tryd.func57, Tryd.ntmps57
    go_wp2_with (go_at_call 56; refine (hget).mono ?_; rintro e w1 ⟨rfl, hb1⟩)
    go_ret3
    exact ⟨rfl, hb1⟩
  · obtain ⟨m, rfl⟩ : ∃ m : Nat, most = m := ⟨most.toNat, by omega⟩
    clear hm1
    by_cases h2 : m < n
    · have hmn : (m : Int) < n := by omega
      simp only [ne_eq, not_true_eq_false, if_false, if_pos hmn]
      go_enter Tryd.func57, Tryd.ntmps57
      go_wp2_with (go_at_call 56; refine (hget).mono ?_; rintro e w1 ⟨rfl, hb1⟩)
      go_ret3
      exact ⟨rfl, hb1⟩
    · have hmn : ¬ (m : Int) < n := by omega
      simp only [ne_eq, not_true_eq_false, if_false, if_neg hmn]
      by_cases h3 : l.length - (k + 4) < n
      · have h3' : (l.length : Int) - ((k : Int) + 4) < n := by omega
        simp only [if_pos h3']
        go_enter Tryd.func57, Tryd.ntmps57
        go_wp2_with (go_at_call 56; refine (hget).mono ?_; rintro e w1 ⟨rfl, hb1⟩)
        go_ret3
        exact ⟨rfl, hb1⟩
      · have h3' : ¬ (l.length : Int) - ((k : Int) + 4) < n := by omega
        simp only [if_neg h3']
        have et : ((l.drop ((k : Int) + 4).toNat).take n).length = n := by simp; omega
        by_cases hn0 : n = 0
        · subst hn0
          have hcv := fun (a : Option Addr) (c : Nat) (wx : World) => text_zero (P := Tryd.prog) 22 5 9 Tryd.underlying22 Tryd.underlying5 Tryd.underlying9 a c wx
          clear hn h2 hmn h3 h3' et
          go_enter Tryd.func57, Tryd.ntmps57
          go_wp2_with (go_at_call 56; refine (hget).mono ?_; rintro e w1 ⟨rfl, hb1⟩)
          all_goals go_ret3
          all_goals exact ⟨by simp, hb1⟩
        · have hcv := fun (wx : World) (hbx : Below w.heap.size w wx) => text_bytes (P := Tryd.prog) 22 5 9 Tryd.underlying22 Tryd.underlying5 Tryd.underlying9 b (off + (k + 4)) (cap - (k + 4)) ((l.drop ((k : Int) + 4).toNat).take n) wx (fun j hj => by
            rw [et] at hj
            have hj' : k + 4 + j < l.length := by omega
            have h1 := hc (k + 4 + j) hj'
            rw [show off + (k + 4) + j = off + (k + 4 + j) from by omega, hbx.cell (World.block_lt_of_cell? w _ h1), h1]
            have e4 : ((k : Int) + 4).toNat = k + 4 := by omega
            simp [List.getD, e4, hj])
          rw [et] at hcv
          have HC : Hid (∀ wx, Below w.heap.size w wx → (convert 22 9 (.slice (some ⟨b, off + (k + 4), none⟩) n (cap - (k + 4)))).run Tryd.prog wx = .ok (.string (textOf ((l.drop ((k : Int) + 4).toNat).take n))) wx) := hcv
          clear hcv et
          go_enter Tryd.func57, Tryd.ntmps57
          go_wp2_with (go_at_call 56; refine (hget).mono ?_; rintro e w1 ⟨rfl, hb1⟩; have hcv := HC.out _ hb1)
          go_ret3
          exact ⟨rfl, hb1⟩
theorem gettext_get (a : Option Addr) (cap : Nat) (l : List UInt8) (i most : Int) (w : World) (hlen : l.length ≤ 9223372036854775807) (hcap : l.length ≤ cap) (h : BS w a l) (hbad : (getR l i).2.2 ≠ 0) :
    Calls Tryd.prog 57 #[.slice a l.length cap, .int .i64 i, .int .i64 most] w fun e w' =>
      e = .returned (.tuple #[.string (textOf (getTextR l i most).1), .int .i64 (getTextR l i most).2.1, .int .i64 (getTextR l i most).2.2]) ∧ Below w.heap.size w w' := by
  have hget := get_any a cap l i w hlen hcap h
  have hb := getR_bad l i hbad
  unfold getTextR
  simp only [if_pos hbad]
  obtain ⟨e, he⟩ : ∃ e, e = (getR l i).2.2 := ⟨_, rfl⟩
  rw [hb, ← he] at hget
  rw [← he] at hbad ⊢
  have hbe : (e == 0) = false := by simpa using hbad
  clear he hb hbad
  go_enter Tryd.func57, Tryd.ntmps57
  go_wp2_with (go_at_call 56; refine (hget).mono ?_; rintro e w1 ⟨rfl, hb1⟩)
  go_ret3
  exact ⟨rfl, hb1⟩
/-- THE CONTRACT. -/
theorem gettext_any (a : Option Addr) (cap : Nat) (l : List UInt8) (i most : Int) (w : World) (hlen : l.length ≤ 9223372036854775807) (hcap : l.length ≤ cap) (h : BS w a l)
    (hm1 : -9223372036854775808 ≤ most) (hm2 : most ≤ 9223372036854775807) :
    Calls Tryd.prog 57 #[.slice a l.length cap, .int .i64 i, .int .i64 most] w fun e w' =>
      e = .returned (.tuple #[.string (textOf (getTextR l i most).1), .int .i64 (getTextR l i most).2.1, .int .i64 (getTextR l i most).2.2]) ∧ Below w.heap.size w w' := by
  by_cases hg : (getR l i).2.2 = 0
  · obtain ⟨k, rfl, h4, hg'⟩ := getR_ok l i hg
    rcases h with rfl | ⟨b, off, rfl, hc⟩
    · simp at h4
    · exact gettext_some b off cap l k most w hlen hcap h4 hm1 hm2 hc hg'
  · exact gettext_get a cap l i most w hlen hcap h hg
end Go.Proofs.YtplmmamebfpcjaaDoor.Oc
end
section
/- Bytes in memory that a call itself made. -/
namespace Go.Proofs.YtplmmamebfpcjaaDoor.Oc
set_option maxRecDepth 100000
open Go.RowKit
open Go.Joins
/-- A block of bytes that the call itself made. -/
def Own (w : World) (g : Nat) (L : List Value) : Prop := w.heap[g]? = some (.cells L.toArray 5 (0, 0))
theorem Own.below {w w' : World} {g : Nat} {L : List Value} {B : Nat} (h : Own w g L) (hb : Below B w w') (hg : g < B) : Own w' g L := by
  unfold Own; rw [hb.block g hg]; exact h
theorem Own.lt {w : World} {g : Nat} {L : List Value} (h : Own w g L) : g < w.heap.size := (Array.getElem?_eq_some_iff.1 h).1
theorem Own.cell {w : World} {g : Nat} {L : List Value} (h : Own w g L) (j : Nat) : w.cell? ⟨g, j, none⟩ = L[j]? := by
  rw [cell_of_block h]; simp
theorem Own.free {w : World} {g : Nat} {L : List Value} (h : Own w g L) (j : Nat) : w.frozen? ⟨g, j, none⟩ = false := unfrozen_of_block h j
theorem Own.set {w : World} {g : Nat} {L : List Value} (h : Own w g L) (j : Nat) (v : Value) : Own (w.setCell ⟨g, j, none⟩ v) g (L.set j v) := by
  have := block_setCell h (i := j) v
  unfold Own; rw [this]; simp
theorem Own.bs {w : World} {g : Nat} {l r : List UInt8} (h : Own w g (cellsOf (l ++ r))) : BS w (some ⟨g, 0, none⟩) l := by
  refine .inr ⟨_, _, rfl, fun j hj => ?_⟩
  rw [Nat.zero_add, h.cell, cellsOf_get _ j (by simp; omega)]
  simp [List.getD, List.getElem?_append_left hj]
theorem cellsOf_length (l : List UInt8) : (cellsOf l).length = l.length := by simp [cellsOf]
theorem cellsOf_append (l r : List UInt8) : cellsOf (l ++ r) = cellsOf l ++ cellsOf r := by simp [cellsOf]
theorem cellsOf_one (l : List UInt8) : ∀ v ∈ cellsOf l, v.oneCell' = true := by
  intro v hv; simp [cellsOf] at hv; obtain ⟨c, _, rfl⟩ := hv; rfl
theorem cellsOf_set (l : List UInt8) (j : Nat) (c : UInt8) : (cellsOf l).set j (.int .u8 (c.toNat : Int)) = cellsOf (l.set j c) := by
  simp [cellsOf, List.map_set]
theorem info5 : (Tryd.prog.info? 5).map (fun i => (i.zero, i.size, i.bytes)) = some (some (.int .u8 0), 1, 1) := by kernel_rfl
theorem size5 : (Tryd.prog.info? 5).map (·.size) = some 1 := by kernel_rfl
end Go.Proofs.YtplmmamebfpcjaaDoor.Oc
end
section
/- append, its run handed to the operation. -/
namespace Go.Proofs.YtplmmamebfpcjaaDoor
open Go.RowKit
open Go.Joins
theorem wpList_append_run {P : Program} {w : World} {ops : Array Oper} {rest : List Oper} {o : Oper} {a : Act} {Q : Exit → Act → World → Prop} (hgd : o.guard = none) (s x : Operand) (t tx : TypeId)
    (ho : o.op = .call { callee := .builtin .append, args := #[s, x], argTypes := #[t, tx] }) (v y : Value) (hs : a.eval s = v) (hx : a.eval x = y) (v' : Value) (w' : World)
    (hr : (Builtin.append_ #[t, tx] o.type #[v, y]).run P w = .ok v' w') (h : wpList P ops Q rest (a.put o.dst v') w') : wpList P ops Q (o :: rest) a w := by
  refine wpList_plain hgd fun K hK => ?_
  unfold Oper.wp execOp
  simp only [ho, resolve, invoke, builtin, Sem.run_bind, Sem.run_pure, Result.andThen_ok, List.map_toArray, List.map_cons, List.map_nil, hs, hx, hr]
  exact hK _ _ h
theorem cell_add (b off j : Nat) : (⟨b, off, none⟩ : Addr).add j = ⟨b, off + j, none⟩ := Go.WideShapes.add_plain b off j
end Go.Proofs.YtplmmamebfpcjaaDoor
end
section
/- Appending bytes to bytes: what a run leaves. -/
namespace Go.Proofs.YtplmmamebfpcjaaDoor.Oc
set_option maxRecDepth 100000
open Go.RowKit
open Go.Joins
/-- The value v owns the bytes l, in memory from block 'base' on. -/
def OwnS (w : World) (base : Nat) (v : Value) (l : List UInt8) : Prop := w.ownsRow base 5 1 v l.length (cellsOf l)
theorem OwnS.below {w w' : World} {base : Nat} {v : Value} {l : List UInt8} {B : Nat} (h : OwnS w base v l) (hb : Below B w w') (hB : w.heap.size ≤ B) : OwnS w' base v l := by
  refine ⟨h.1, ?_⟩
  rcases h.2 with h0 | ⟨g, cap, cur, hv, hg, hh, r⟩
  · exact .inl h0
  · refine .inr ⟨g, cap, cur, hv, hg, ?_, r⟩
    rw [hb.block g (Nat.lt_of_lt_of_le (Array.getElem?_eq_some_iff.1 hh).1 hB)]
    exact hh
theorem OwnS.form {w : World} {base : Nat} {v : Value} {l : List UInt8} (h : OwnS w base v l) (hl : 0 < l.length) :
    ∃ g cap, v = .slice (some ⟨g, 0, none⟩) l.length cap ∧ base ≤ g ∧ g < w.heap.size ∧ l.length ≤ cap ∧ cap ≤ 9223372036854775807 ∧ BS w (some ⟨g, 0, none⟩) l := by
  rcases h.2 with ⟨_, h0⟩ | ⟨g, cap, cur, hv, hg, hh, hn, hm, _, ht⟩
  · omega
  · refine ⟨g, cap, hv, hg, (Array.getElem?_eq_some_iff.1 hh).1, hn, by simpa [maxLen] using hm, .inr ⟨g, 0, rfl, fun j hj => ?_⟩⟩
    subst hv
    rw [Nat.zero_add, World.ownsRow.cellAt h j (by omega)]
    exact cellsOf_get l j hj
theorem BS.cells {w : World} {x : Addr} {l : List UInt8} (h : BS w (some x) l) : ∀ j u, (cellsOf l)[j]? = some u → w.cell? (x.add j) = some u := by
  intro j u hu
  rcases h with rfl | ⟨b, off, hx, hc⟩
  · simp [cellsOf] at hu
  · obtain rfl := Option.some.inj hx
    have hj : j < l.length := by
      rcases Nat.lt_or_ge j l.length with h | h
      · exact h
      · rw [List.getElem?_eq_none (by rw [cellsOf_length]; exact h)] at hu; cases hu
    rw [cellsOf_get l j hj] at hu
    rw [cell_add, hc j hj]; exact hu
/-- Onto what is owned: bytes. -/
theorem run_own_bytes (W : World) (base : Nat) (v : Value) (l r : List UInt8) (a : Option Addr) (cap : Nat) (hown : OwnS W base v l) (h : BS W a r) (hnil : a = none → cap = 0) (hb : base ≤ W.heap.size)
    (hsz : l.length + r.length ≤ 140737488355328) :
    ∃ v' w', (Builtin.append_ #[22, 22] 22 #[v, .slice a r.length cap]).run Tryd.prog W = .ok v' w' ∧ OwnS w' base v' (l ++ r) ∧ Below base W w' := by
  obtain ⟨i0, hi, hz0, hz1, hz2⟩ := info_parts info5
  cases a with
  | none =>
    have hr : r = [] := by
      rcases h with h | ⟨b, off, h, _⟩
      · exact h
      · cases h
    subst hr
    rw [hnil rfl]
    exact ⟨v, W, run_append_owned_none (P := Tryd.prog) W base 22 22 5 i0 1 Tryd.underlying22 hi v _ _ hown, by rw [List.append_nil]; exact hown, Below.refl _ _⟩
  | some x =>
    obtain ⟨v', w', h1, h2, h3, _⟩ := run_append_own (P := Tryd.prog) W base 22 22 5 i0 (.int .u8 0) 1 1 Tryd.underlying22 hi hz0 hz1 hz2 rfl (by decide) v l.length (cellsOf l) hown x r.length cap (cellsOf r) (by rw [cellsOf_length, Nat.mul_one]) h.cells (cellsOf_one r) (by unfold maxLen; omega) (by omega) hb
    refine ⟨v', w', h1, ?_, (Below.refl base W).grown h3 hb (fun k hk => (hown.lt k hk).1)⟩
    unfold OwnS
    rw [List.length_append, cellsOf_append]
    exact h2
/-- Onto what is owned: a text. -/
theorem run_own_text (W : World) (base : Nat) (v : Value) (l : List UInt8) (s : ByteArray) (hown : OwnS W base v l) (hb : base ≤ W.heap.size) (hsz : l.length + s.size ≤ 140737488355328) :
    ∃ v' w', (Builtin.append_ #[22, 9] 22 #[v, .string s]).run Tryd.prog W = .ok v' w' ∧ OwnS w' base v' (l ++ s.data.toList) ∧ Below base W w' := by
  obtain ⟨i0, hi, hz0, hz1, hz2⟩ := info_parts info5
  obtain ⟨v', w', h1, h2, h3, _⟩ := Lib.run_append_own_string (P := Tryd.prog) W base 22 9 22 5 i0 Tryd.underlying22 Tryd.underlying9 hi hz0 hz1 hz2 v l.length (cellsOf l) hown s (by unfold maxLen; omega) (by omega) hb
  refine ⟨v', w', h1, ?_, (Below.refl base W).grown h3 hb (fun k hk => (hown.lt k hk).1)⟩
  unfold OwnS
  rw [List.length_append, cellsOf_append, show s.data.toList.length = s.size from Array.length_toList]
  exact h2
/-- Onto a slice that has no room: a new row. -/
theorem run_full_bytes (W : World) (a : Option Addr) (l r : List UInt8) (x : Addr) (cap : Nat) (hl : BS W a l) (h : BS W (some x) r) (hr : 0 < r.length) (hsz : l.length + r.length ≤ 140737488355328) :
    ∃ v' w', (Builtin.append_ #[22, 22] 22 #[.slice a l.length l.length, .slice (some x) r.length cap]).run Tryd.prog W = .ok v' w' ∧ OwnS w' W.heap.size v' (l ++ r) ∧ Below W.heap.size W w' := by
  obtain ⟨i0, hi, hz0, hz1, hz2⟩ := info_parts info5
  cases a with
  | none =>
    have hl0 : l = [] := by
      rcases hl with h | ⟨b, off, h, _⟩
      · exact h
      · cases h
    subst hl0
    exact run_own_bytes W W.heap.size (.slice none 0 0) [] r (some x) cap (World.ownsRow_nil W _ 5 1) h (fun e => by cases e) (Nat.le_refl _) hsz
  | some b =>
    obtain ⟨v', w', h1, h2, h3⟩ := run_append_arg_grows (P := Tryd.prog) W 22 22 5 i0 (.int .u8 0) 1 1 Tryd.underlying22 hi hz0 hz1 hz2 rfl (by decide) b l.length l.length (cellsOf l) (by rw [cellsOf_length, Nat.mul_one]) hl.cells x r.length cap (cellsOf r) (by rw [cellsOf_length, Nat.mul_one]) h.cells (by omega) (by unfold maxLen; omega) (by omega)
    refine ⟨v', w', h1, ?_, (Below.refl _ W).grown h3 (Nat.le_refl _) (fun k hk => by cases hk)⟩
    unfold OwnS
    rw [List.length_append, cellsOf_append]
    exact h2
/-- A number's four bytes. -/
def be4 (n : Nat) : List UInt8 := [UInt8.ofNat (n / 16777216), UInt8.ofNat (n / 65536), UInt8.ofNat (n / 256), UInt8.ofNat n]
theorem be4_cells (n : Nat) (h : n < 4294967296) : (cellsOf (be4 n)).toArray = #[.int .u8 ((n : Int) / 16777216), .int .u8 ((n : Int) / 65536 % 256), .int .u8 ((n : Int) / 256 % 256), .int .u8 ((n : Int) % 256)] := by
  simp only [cellsOf, be4, List.map_cons, List.map_nil, UInt8.toNat_ofNat']
  have e0 : ((n / 16777216 % 2 ^ 8 : Nat) : Int) = (n : Int) / 16777216 := by omega
  have e1 : ((n / 65536 % 2 ^ 8 : Nat) : Int) = (n : Int) / 65536 % 256 := by omega
  have e2 : ((n / 256 % 2 ^ 8 : Nat) : Int) = (n : Int) / 256 % 256 := by omega
  have e3 : ((n % 2 ^ 8 : Nat) : Int) = (n : Int) % 256 := by omega
  rw [e0, e1, e2, e3]
end Go.Proofs.YtplmmamebfpcjaaDoor.Oc
end
section
/- octet.Put, PutText, tesseraref1.Put, PutText: their contracts. -/
namespace Go.Proofs.YtplmmamebfpcjaaDoor.Oc
set_option maxRecDepth 100000
open Go.RowKit
open Go.Joins
/-- What a call answers that lays bytes in new memory. -/
def NewBytes (w : World) (l : List UInt8) (e : Ending) (w' : World) : Prop := ∃ v, e = .returned v ∧ OwnS w' w.heap.size v l ∧ Below w.heap.size w w'
theorem be4_bs (w : World) (n : Nat) (h : n < 4294967296) : BS (w.alloc (.cells #[.int .u8 ((n : Int) / 16777216), .int .u8 ((n : Int) / 65536 % 256), .int .u8 ((n : Int) / 256 % 256), .int .u8 ((n : Int) % 256)] 5)) (some ⟨w.heap.size, 0, none⟩) (be4 n) := by
  rw [← be4_cells n h]; exact BS.new w (be4 n) 5
set_option maxHeartbeats 400000 in
theorem put_any (a : Option Addr) (cap : Nat) (l : List UInt8) (n : Nat) (hn : n < 4294967296) (w : World) (hlen : l.length ≤ 140737488351232) (hcap : l.length ≤ cap) (h : BS w a l) :
    Calls Tryd.prog 13 #[.slice a l.length cap, .int .u32 n] w (NewBytes w (l ++ be4 n)) := by
  have hbA := (Below.refl w.heap.size w).alloc (Nat.le_refl _) (.cells #[.int .u8 ((n : Int) / 16777216), .int .u8 ((n : Int) / 65536 % 256), .int .u8 ((n : Int) / 256 % 256), .int .u8 ((n : Int) % 256)] 5)
  obtain ⟨v', w', hr, ho, hb⟩ := run_full_bytes _ a l (be4 n) ⟨w.heap.size, 0, none⟩ 4 (h.below hbA) (be4_bs w n hn) (by simp [be4]) (by simp [be4]; omega)
  have hbB : Below w.heap.size w w' := hbA.trans (hb.mono (by simp))
  have ho' : OwnS w' w.heap.size v' (l ++ be4 n) := ownsRow_le ho (by simp)
  clear ho hbA hb h
  go_enter Tryd.func13, Tryd.ntmps13
  go_wp2_with (at_builtin; refine wpList_append_run rfl (.tmp 10) (.tmp 22) 22 22 rfl _ _ rfl rfl v' w' hr ?_)
  go_ret
  exact ⟨_, rfl, ho', hbB⟩
set_option maxHeartbeats 400000 in
theorem puttext_any (a : Option Addr) (cap : Nat) (l : List UInt8) (s : ByteArray) (w : World) (hlen : l.length + s.size ≤ 1073741824) (hcap : l.length ≤ cap) (h : BS w a l) :
    Calls Tryd.prog 12 #[.slice a l.length cap, .string s] w (NewBytes w (l ++ be4 s.size ++ s.data.toList)) := by
  have hput := put_any a cap l s.size (by omega) w (by omega) hcap h
  clear h
  go_enter Tryd.func12, Tryd.ntmps12
  go_wp2_with (first
    | (go_at_call 13; refine hput.mono ?_; rintro e w1 ⟨v1, rfl, ho1, hb1⟩; obtain ⟨v2, w2, hr2, ho2, hb2⟩ := run_own_text w1 w.heap.size v1 _ s ho1 hb1.size (by simp [be4]; omega))
    | (at_builtin; refine wpList_append_run rfl (.tmp 9) (.tmp 10) 22 9 rfl _ _ rfl rfl v2 w2 hr2 ?_))
  go_ret
  exact ⟨_, rfl, ho2, hb1.trans hb2⟩
end Go.Proofs.YtplmmamebfpcjaaDoor.Oc
end
section
/- The plain mathematics of chapter 1's sum: the register's step, by one bit, by four, by a byte. No program is named here. -/
namespace Go.Proofs.YtplmmamebfpcjaaDoor.Oc
set_option maxRecDepth 100000

/-- One bit's step of the register. -/
def hs1 (n : Nat) : Nat := if n % 2 = 1 then (n / 2) ^^^ 3988292384 else n / 2
def hsN : Nat → Nat → Nat
  | 0, n => n
  | j + 1, n => hs1 (hsN j n)
theorem hs1_lt (n : Nat) (h : n < 4294967296) : hs1 n < 4294967296 := by
  unfold hs1
  split
  · exact Nat.xor_lt_two_pow (n := 32) (by omega) (by omega)
  · omega
theorem hsN_lt (j n : Nat) (h : n < 4294967296) : hsN j n < 4294967296 := by
  induction j with
  | zero => exact h
  | succ j ih => exact hs1_lt _ ih
theorem hsN_add (i j n : Nat) : hsN (i + j) n = hsN i (hsN j n) := by
  induction i with
  | zero => simp [hsN]
  | succ i ih => rw [Nat.add_right_comm]; simp only [hsN, ih]
theorem hsN_one (n : Nat) : hsN 1 n = hs1 n := rfl

theorem xor_mod2 (a b : Nat) : (a ^^^ b) % 2 = (a % 2 + b % 2) % 2 := by
  have h : ((a ^^^ b).testBit 0) = (a.testBit 0 ^^ b.testBit 0) := Nat.testBit_xor ..
  simp only [Nat.testBit_zero] at h
  by_cases h1 : a % 2 = 1 <;> by_cases h2 : b % 2 = 1
  · rw [decide_eq_true h1, decide_eq_true h2] at h
    have := of_decide_eq_false h; omega
  · rw [decide_eq_true h1, decide_eq_false h2] at h
    have := of_decide_eq_true h; omega
  · rw [decide_eq_false h1, decide_eq_true h2] at h
    have := of_decide_eq_true h; omega
  · rw [decide_eq_false h1, decide_eq_false h2] at h
    have := of_decide_eq_false h; omega
/-- The step is linear. -/
theorem hs1_xor (a b : Nat) : hs1 (a ^^^ b) = hs1 a ^^^ hs1 b := by
  have hm := xor_mod2 a b
  have hd : (a ^^^ b) / 2 = a / 2 ^^^ b / 2 := Nat.xor_div_two
  unfold hs1
  rw [hm, hd]
  by_cases h1 : a % 2 = 1 <;> by_cases h2 : b % 2 = 1
  · rw [if_neg (by omega), if_pos h1, if_pos h2]
    generalize a / 2 = x; generalize b / 2 = y
    have : x ^^^ 3988292384 ^^^ (y ^^^ 3988292384) = x ^^^ y ^^^ (3988292384 ^^^ 3988292384) := by
      rw [Nat.xor_assoc, Nat.xor_assoc, ← Nat.xor_assoc 3988292384 y, Nat.xor_comm 3988292384 y, Nat.xor_assoc]
    rw [this, Nat.xor_self, Nat.xor_zero]
  · rw [if_pos (by omega), if_pos h1, if_neg h2]
    rw [Nat.xor_assoc, Nat.xor_comm (b / 2), ← Nat.xor_assoc]
  · rw [if_pos (by omega), if_neg h1, if_pos h2]
    rw [Nat.xor_assoc]
  · rw [if_neg (by omega), if_neg h1, if_neg h2]
theorem hsN_xor (j a b : Nat) : hsN j (a ^^^ b) = hsN j a ^^^ hsN j b := by
  induction j with
  | zero => rfl
  | succ j ih => simp only [hsN, ih, hs1_xor]
theorem hs1_zero : hs1 0 = 0 := by rfl
theorem hsN_zero (j : Nat) : hsN j 0 = 0 := by
  induction j with
  | zero => rfl
  | succ j ih => simp only [hsN, ih, hs1_zero]
/-- What has only zeros below is shifted. -/
theorem hsN_shift (j x : Nat) : hsN j (x * 2 ^ j) = x := by
  induction j generalizing x with
  | zero => simp [hsN]
  | succ j ih =>
    rw [Nat.add_comm j 1, hsN_add]
    have : x * 2 ^ (1 + j) = (x * 2) * 2 ^ j := by rw [Nat.pow_add, ← Nat.mul_assoc]
    rw [this, ih, hsN_one, hs1, if_neg (by omega)]
    exact Nat.mul_div_cancel _ (by omega)
theorem split_xor (x j : Nat) : x = (x / 2 ^ j * 2 ^ j) ^^^ (x % 2 ^ j) := by
  apply Nat.eq_of_testBit_eq
  intro i
  rw [Nat.testBit_xor, Nat.testBit_mod_two_pow, Nat.testBit_mul_two_pow, Nat.testBit_div_two_pow]
  by_cases h : i < j
  · simp [h, Nat.not_le.2 h]
  · have : i - j + j = i := by omega
    simp [h, Nat.not_lt.1 h, this]
/-- Four steps by the table. -/
theorem hs4 (x : Nat) : hsN 4 x = (x / 16) ^^^ hsN 4 (x % 16) := by
  have h := split_xor x 4
  calc hsN 4 x = hsN 4 ((x / 2 ^ 4 * 2 ^ 4) ^^^ (x % 2 ^ 4)) := by rw [← h]
    _ = _ := by rw [hsN_xor, hsN_shift]

/-- A byte's step, the whole register. -/
def crcR (r : Nat) (l : List UInt8) : Nat := l.foldl (fun r c => hsN 8 (r ^^^ c.toNat)) r
def crc (l : List UInt8) : Nat := 4294967295 ^^^ crcR 4294967295 l
theorem crcR_lt (l : List UInt8) : ∀ r, r < 4294967296 → crcR r l < 4294967296 := by
  induction l with
  | nil => intro r h; exact h
  | cons c l ih =>
    intro r h
    have hc : c.toNat < 256 := c.toNat_lt
    exact ih _ (hsN_lt _ _ (Nat.xor_lt_two_pow (n := 32) h (by omega)))
theorem crc_lt (l : List UInt8) : crc l < 4294967296 :=
  Nat.xor_lt_two_pow (n := 32) (by omega) (crcR_lt l _ (by omega))
theorem crcR_snoc (r : Nat) (l : List UInt8) (k : Nat) (h : k < l.length) : crcR r (l.take (k + 1)) = hsN 8 (crcR r (l.take k) ^^^ (l.getD k 0).toNat) := by
  unfold crcR
  rw [List.take_add_one, List.foldl_append]
  simp [List.getD, List.getElem?_eq_getElem h]

/-- In the walk's spelling. -/
theorem and1 (n : Nat) (h : n < 4294967296) : (bits BinOp.and IntKind.u32 (n : Int) 1 == 1) = decide (n % 2 = 1) := by
  have := u32_and_nat n 1 h (by omega)
  rw [Nat.and_one_is_mod] at this
  rw [show ((1 : Nat) : Int) = 1 from rfl] at this
  rw [this, Bool.eq_iff_iff]; simp; omega
theorem and15 (n : Nat) (h : n < 4294967296) : bits BinOp.and IntKind.u32 (n : Int) 15 = ((n % 16 : Nat) : Int) := by
  have := u32_and_nat n 15 h (by omega)
  rw [nat_mask4] at this
  exact this
theorem xorp (n : Nat) (h : n < 4294967296) : bits BinOp.xor IntKind.u32 (n : Int) 3988292384 = ((n ^^^ 3988292384 : Nat) : Int) := u32_xor_nat n 3988292384 h (by omega)
theorem odd_in (n : Nat) (h : n < 4294967296) (ho : n % 2 = 1) : (bits BinOp.and IntKind.u32 (n : Int) 1 == 1) = true := by rw [and1 n h]; simpa using ho
theorem even_in (n : Nat) (h : n < 4294967296) (ho : ¬ n % 2 = 1) : (bits BinOp.and IntKind.u32 (n : Int) 1 == 1) = false := by rw [and1 n h]; simpa using ho
theorem odd_out (n : Nat) (h : n < 4294967296) (ho : n % 2 = 1) : bits BinOp.xor IntKind.u32 ((n : Int) / 2) 3988292384 = (hs1 n : Nat) := by
  have := xorp (n / 2) (by omega)
  rw [show (((n / 2 : Nat)) : Int) = (n : Int) / 2 from by omega] at this
  rw [this, hs1, if_pos ho]
theorem even_out (n : Nat) (ho : ¬ n % 2 = 1) : ((n : Int) / 2) = (hs1 n : Nat) := by
  rw [hs1, if_neg ho]; omega
theorem int_eq {k : IntKind} {a b : Int} (h : a = b) : Value.int k a = Value.int k b := by rw [h]

/-- The table. -/
def tabA (k : Nat) : Array Value := Array.ofFn (n := 16) fun i => .int .u32 (if i.val < k then (hsN 4 i.val : Nat) else (0 : Nat) : Nat)
def tabZ : Array Value := #[Value.int IntKind.u32 0, Value.int IntKind.u32 0, Value.int IntKind.u32 0, Value.int IntKind.u32 0,
  Value.int IntKind.u32 0, Value.int IntKind.u32 0, Value.int IntKind.u32 0, Value.int IntKind.u32 0,
  Value.int IntKind.u32 0, Value.int IntKind.u32 0, Value.int IntKind.u32 0, Value.int IntKind.u32 0,
  Value.int IntKind.u32 0, Value.int IntKind.u32 0, Value.int IntKind.u32 0, Value.int IntKind.u32 0]
theorem tabA_zero : tabA 0 = tabZ := by rfl
theorem tabA_size (k : Nat) : (tabA k).size = 16 := by simp [tabA]
theorem tabA_set (k : Nat) (_h : k < 16) : (tabA k).setIfInBounds k (.int .u32 (hsN 4 k : Nat)) = tabA (k + 1) := by
  apply Array.ext
  · simp [tabA]
  · intro i h1 h2
    simp only [tabA, Array.size_setIfInBounds, Array.size_ofFn] at h1
    rw [Array.getElem_setIfInBounds (by simpa [tabA] using h1)]
    simp only [tabA, Array.getElem_ofFn]
    by_cases e : k = i
    · subst e; simp
    · have : (i < k + 1) = (i < k) := by simp; omega
      simp [e, this]
theorem tabA_get (k i : Nat) (h : i < 16) (hk : i < k) : (tabA k)[i]? = some (.int .u32 (hsN 4 i : Nat)) := by
  rw [Array.getElem?_eq_getElem (by simpa [tabA] using h)]
  simp [tabA, hk]
def tabL : Array Value := #[Value.int IntKind.u32 0x00000000, Value.int IntKind.u32 0x1db71064, Value.int IntKind.u32 0x3b6e20c8, Value.int IntKind.u32 0x26d930ac, Value.int IntKind.u32 0x76dc4190, Value.int IntKind.u32 0x6b6b51f4, Value.int IntKind.u32 0x4db26158, Value.int IntKind.u32 0x5005713c, Value.int IntKind.u32 0xedb88320, Value.int IntKind.u32 0xf00f9344, Value.int IntKind.u32 0xd6d6a3e8, Value.int IntKind.u32 0xcb61b38c, Value.int IntKind.u32 0x9b64c2b0, Value.int IntKind.u32 0x86d3d2d4, Value.int IntKind.u32 0xa00ae278, Value.int IntKind.u32 0xbdbdf21c]
theorem tabL_eq : tabA 16 = tabL := by kernel_rfl
theorem tabL_get (i : Nat) (h : i < 16) : tabL[i]? = some (.int .u32 (hsN 4 i : Nat)) := by rw [← tabL_eq]; exact tabA_get 16 i h h
end Go.Proofs.YtplmmamebfpcjaaDoor.Oc
end
section
/- Files: what is read of bytes, what is written: the mathematics. -/
namespace Go.Proofs.YtplmmamebfpcjaaDoor
set_option maxRecDepth 100000
open Oc
/-- Where, and why. -/
abbrev Er := Nat × Nat
/-- The number at p, from lo to hi; else why. -/
def numP (l : List UInt8) (lo hi why p : Nat) : Except Er (Nat × Nat) :=
  if p + 4 ≤ l.length then (if num4 l p < lo ∨ hi < num4 l p then .error (p, why) else .ok (num4 l p, p + 4)) else .error (l.length, 10)
theorem numP_short {l : List UInt8} {lo hi why p : Nat} (h : ¬ p + 4 ≤ l.length) : numP l lo hi why p = .error (l.length, 10) := by unfold numP; rw [if_neg h]
theorem numP_bad {l : List UInt8} {lo hi why p : Nat} (h : p + 4 ≤ l.length) (h2 : num4 l p < lo ∨ hi < num4 l p) : numP l lo hi why p = .error (p, why) := by unfold numP; rw [if_pos h, if_pos h2]
theorem numP_ok {l : List UInt8} {lo hi why p : Nat} (h : p + 4 ≤ l.length) (h2 : ¬ (num4 l p < lo ∨ hi < num4 l p)) : numP l lo hi why p = .ok (num4 l p, p + 4) := by unfold numP; rw [if_pos h, if_neg h2]
theorem numP_inv {l : List UInt8} {lo hi why p n q : Nat} (h : numP l lo hi why p = .ok (n, q)) : p + 4 ≤ l.length ∧ q = p + 4 ∧ n = num4 l p ∧ lo ≤ n ∧ n ≤ hi := by
  unfold numP at h
  by_cases h1 : p + 4 ≤ l.length
  · rw [if_pos h1] at h
    by_cases h2 : num4 l p < lo ∨ hi < num4 l p
    · rw [if_pos h2] at h; cases h
    · rw [if_neg h2] at h
      cases h
      exact ⟨h1, rfl, rfl, by omega, by omega⟩
  · rw [if_neg h1] at h; cases h
/-- One behind the other. -/
def andP {α β : Type} (x : Except Er (α × Nat)) (f : α → Nat → Except Er β) : Except Er β :=
  match x with
  | .error e => .error e
  | .ok (a, p) => f a p
/-- n rows, each with its place. -/
def manyP {α : Type} (f : Nat → Except Er (α × Nat)) : Nat → Nat → Except Er (List (α × Nat) × Nat)
  | 0, p => .ok ([], p)
  | n + 1, p => andP (manyP f n p) fun l q => andP (f q) fun x r => .ok (l ++ [(x, q)], r)
theorem manyP_zero {α : Type} (f : Nat → Except Er (α × Nat)) (p : Nat) : manyP f 0 p = .ok ([], p) := rfl
theorem manyP_go {α : Type} {f : Nat → Except Er (α × Nat)} {n p : Nat} {l : List (α × Nat)} {q : Nat} (h : manyP f n p = .ok (l, q)) : manyP f (n + 1) p = andP (f q) fun x r => .ok (l ++ [(x, q)], r) := by
  show andP (manyP f n p) _ = _
  rw [h]; rfl
theorem manyP_err {α : Type} {f : Nat → Except Er (α × Nat)} {n p : Nat} {e : Er} (h : manyP f n p = .error e) : manyP f (n + 1) p = .error e := by
  show andP (manyP f n p) _ = _
  rw [h]; rfl
theorem manyP_stop {α : Type} {f : Nat → Except Er (α × Nat)} {n p : Nat} {e : Er} (h : manyP f n p = .error e) : ∀ k, n ≤ k → manyP f k p = .error e := by
  intro k hk
  induction k with
  | zero => obtain rfl : n = 0 := by omega
            exact h
  | succ k ih =>
    rcases Nat.lt_or_ge n (k + 1) with h1 | h1
    · exact manyP_err (ih (by omega))
    · obtain rfl : n = k + 1 := by omega
      exact h
theorem manyP_len {α : Type} {f : Nat → Except Er (α × Nat)} {p : Nat} : ∀ {n : Nat} {l : List (α × Nat)} {q : Nat}, manyP f n p = .ok (l, q) → l.length = n := by
  intro n
  induction n with
  | zero => intro l q h; cases h; rfl
  | succ n ih =>
    intro l q h
    cases hx : manyP f n p with
    | error e => rw [manyP_err hx] at h; cases h
    | ok a =>
      obtain ⟨m, r⟩ := a
      rw [manyP_go hx] at h
      cases hf : f r with
      | error e => rw [hf] at h; cases h
      | ok b =>
        obtain ⟨x, s⟩ := b
        rw [hf] at h
        cases h
        simp [ih hx]
/-- The word at p. -/
def wordP (l : List UInt8) (p : Nat) : Except Er (ByteArray × Nat) :=
  andP (numP l 2 256 21 p) fun n q => if q + n ≤ l.length then .ok (textOf ((l.drop q).take n), q + n) else .error (l.length, 10)
def idP (l : List UInt8) (p : Nat) : Except Er (Nat × Nat) := numP l 0 2147483647 24 p
def endP (l : List UInt8) (p : Nat) : Except Er (Nat × Nat) := numP l 0 1114111 14 p
/-- The merge at p. -/
def mgP (l : List UInt8) (p : Nat) : Except Er (Mg × Nat) :=
  andP (idP l p) fun a q => andP (idP l q) fun b r => andP (idP l r) fun c s => .ok (⟨a, b, c⟩, s)
/-- The span at p. -/
def spP (l : List UInt8) (p : Nat) : Except Er (Sp × Nat) :=
  andP (endP l p) fun a q => andP (endP l q) fun b r => .ok (⟨a, b⟩, r)
/-- The spans at p, behind their number. -/
def listP (l : List UInt8) (p : Nat) : Except Er (List (Sp × Nat) × Nat) :=
  andP (numP l 0 512 4 p) fun n q => manyP (spP l) n q
/-- All that was read; where the number of spaces stands. -/
structure Raw where
  ws : List (ByteArray × Nat)
  ms : List (Mg × Nat)
  A : List (Sp × Nat)
  B : List (Sp × Nat)
  C : List (Sp × Nat)
  blank : Nat
def Raw.W (r : Raw) : List ByteArray := r.ws.map Prod.fst
def Raw.M (r : Raw) : List Mg := r.ms.map Prod.fst
def Raw.X (r : Raw) : List Sp := r.A.map Prod.fst
def Raw.Y (r : Raw) : List Sp := r.B.map Prod.fst
def Raw.Z (r : Raw) : List Sp := r.C.map Prod.fst
/-- All but the sum, from p on. -/
def bodyP (l : List UInt8) (p : Nat) : Except Er (Raw × Nat) :=
  andP (numP l 0 4096 4 p) fun n p1 => andP (manyP (wordP l) n p1) fun ws p2 => andP (manyP (mgP l) n p2) fun ms p3 =>
  andP (listP l p3) fun A p4 => andP (listP l p4) fun B p5 => andP (listP l p5) fun C p6 => .ok (⟨ws, ms, A, B, C, p5⟩, p6)
def sumP (l : List UInt8) (p : Nat) : Except Er Unit :=
  andP (numP l 0 4294967295 0 p) fun s q => if q < l.length then .error (q, 13) else if s ≠ crc (l.take p) then .error (p, 12) else .ok ()
def magicL : List UInt8 := [66, 80, 69, 49]
/-- The first byte that isn't a file's. -/
def magicP (l : List UInt8) : Option Nat := (List.range 4).find? fun i => decide (l[i]? ≠ magicL[i]?)
def rawP (l : List UInt8) : Except Er Raw :=
  match magicP l with
  | some i => .error (i, 11)
  | none => andP (bodyP l 4) fun r p => match sumP l p with | .error e => .error e | .ok _ => .ok r
/-- The place of the row that a fault tells. -/
def placesR (r : Raw) : Nat → List Nat
  | 1 => r.A.map Prod.snd
  | 2 => r.B.map Prod.snd
  | 3 => r.C.map Prod.snd
  | 4 => r.ws.map Prod.snd
  | 5 => r.ms.map Prod.snd
  | _ => []
def placeR (r : Raw) (li ro : Nat) : Nat := (placesR r li).getD ro r.blank
/-- P6.2. -/
def loadR (l : List UInt8) : Except Er Raw :=
  if 4194304 < l.length then .error (0, 3) else
  match rawP l with
  | .error e => .error e
  | .ok r => if (checkD r.W r.M r.X r.Y r.Z).1 = 0 then .ok r else .error (placeR r (checkD r.W r.M r.X r.Y r.Z).2.1 (checkD r.W r.M r.X r.Y r.Z).2.2, (checkD r.W r.M r.X r.Y r.Z).1)
/-- P6.1. -/
def wordsF (ws : List ByteArray) : List UInt8 := ws.flatMap fun w => be4 w.size ++ w.data.toList
def mgF (x : Mg) : List UInt8 := be4 x.l.toNat ++ be4 x.r.toNat ++ be4 x.i.toNat
def spF (x : Sp) : List UInt8 := be4 x.lo.toNat ++ be4 x.hi.toNat
def mgsF (ms : List Mg) : List UInt8 := ms.flatMap mgF
def spansF (l : List Sp) : List UInt8 := be4 l.length ++ l.flatMap spF
def bodyF (ws : List ByteArray) (ms : List Mg) (A B C : List Sp) : List UInt8 := magicL ++ be4 ws.length ++ wordsF ws ++ mgsF ms ++ spansF A ++ spansF B ++ spansF C
def fileF (ws : List ByteArray) (ms : List Mg) (A B C : List Sp) : List UInt8 := bodyF ws ms A B C ++ be4 (crc (bodyF ws ms A B C))
theorem be4_length (n : Nat) : (be4 n).length = 4 := rfl
end Go.Proofs.YtplmmamebfpcjaaDoor
end
section
/- Lists of spans in memory; the two package-level variables. -/
namespace Go.Proofs.YtplmmamebfpcjaaDoor
open Go.RowKit
/-- Its value. -/
def spv (x : Sp) : Value := .agg #[.int .i32 x.lo, .int .i32 x.hi]
/-- A span's two cells. -/
def SpAt (w : World) (b off : Nat) (x : Sp) : Prop := w.cell? ⟨b, off, none⟩ = some (.int .i32 x.lo) ∧ w.cell? ⟨b, off + 1, none⟩ = some (.int .i32 x.hi)
theorem SpAt.below {w w' : World} {b off : Nat} {x : Sp} (h : SpAt w b off x) (hb : Below w.heap.size w w') : SpAt w' b off x :=
  ⟨(hb.cell (World.block_lt_of_cell? w _ h.1)).trans h.1, (hb.cell (World.block_lt_of_cell? w _ h.2)).trans h.2⟩
/-- The slice that begins at a holds the spans l. -/
def SPS (w : World) (a : Option Addr) (l : List Sp) : Prop :=
  l = [] ∨ ∃ b off, a = some ⟨b, off, none⟩ ∧ ∀ i x, l[i]? = some x → SpAt w b (off + i * 2) x
theorem SPS.below {w w' : World} {a : Option Addr} {l : List Sp} (h : SPS w a l) (hb : Below w.heap.size w w') : SPS w' a l := by
  rcases h with h | ⟨b, off, rfl, hc⟩
  · exact .inl h
  · exact .inr ⟨b, off, rfl, fun i x hx => (hc i x hx).below hb⟩
theorem SPS.take {w : World} {a : Option Addr} {l : List Sp} (h : SPS w a l) (n : Nat) : SPS w a (l.take n) := by
  rcases h with rfl | ⟨b, off, rfl, hc⟩
  · exact .inl (by simp)
  · refine .inr ⟨b, off, rfl, fun i x hx => hc i x ?_⟩
    rw [List.getElem?_take] at hx
    split at hx
    · exact hx
    · cases hx
/-- What the package-level variables hold: block 0: nothing; block 2: runes. -/
def GL (w : World) : Prop := SpAt w 0 0 ⟨0, -1⟩ ∧ SpAt w 2 0 lowR ∧ SpAt w 2 2 highR
theorem GL.below {w w' : World} (h : GL w) (hb : Below w.heap.size w w') : GL w' := ⟨h.1.below hb, h.2.1.below hb, h.2.2.below hb⟩
theorem cell_alloc_s {w : World} {a : Addr} {v : Value} (h : w.cell? a = some v) (o : Obj) : (w.alloc o).cell? a = some v :=
  (((Below.refl w.heap.size w).alloc (Nat.le_refl _) o).cell (World.block_lt_of_cell? w _ h)).trans h
/-- Their cells, one by one; there are two blocks at the least. -/
theorem GL.cells {w : World} (h : GL w) : w.cell? ⟨0, 0, none⟩ = some (.int .i32 0) ∧ w.cell? ⟨0, 1, none⟩ = some (.int .i32 (-1)) ∧ w.cell? ⟨2, 0, none⟩ = some (.int .i32 0) ∧ w.cell? ⟨2, 1, none⟩ = some (.int .i32 55295) ∧
    w.cell? ⟨2, 2, none⟩ = some (.int .i32 57344) ∧ w.cell? ⟨2, 3, none⟩ = some (.int .i32 1114111) ∧ w.heap.size ≠ 0 ∧ w.heap.size ≠ 2 := by
  have := World.block_lt_of_cell? w _ h.2.1.1
  have h9 := World.block_lt_of_cell? w _ h.1.1
  simp only at this h9
  exact ⟨h.1.1, h.1.2, h.2.1.1, h.2.1.2, h.2.2.1, h.2.2.2, by omega, by omega⟩
end Go.Proofs.YtplmmamebfpcjaaDoor
end
section
/- Two spans held against each other. -/
namespace Go.Proofs.YtplmmamebfpcjaaDoor
open Go.RowKit
def fLo : Field := Field.mk "Lo" 21 0 false "" "" 0
def fHi : Field := Field.mk "Hi" 21 1 false "" "" 4
theorem fields26 : Tryd.prog.fieldsOf 40 = #[fLo, fHi] := by kernel_rfl
theorem und26 : Tryd.prog.underlying 40 = some (.struct #[fLo, fHi]) := by kernel_rfl
theorem held26 : Tryd.prog.stoodInHeld 40 = false := by kernel_rfl
def spEq (x y : Sp) : Bool := x.lo == y.lo && x.hi == y.hi
theorem equal_sp (a b c d : Int) (W : World) : (Op.equalIn 10000 40 (.agg #[.int .i32 a, .int .i32 b]) (.agg #[.int .i32 c, .int .i32 d])).run Tryd.prog W = .ok (a == c && b == d) W := by
  rw [run_equalIn_agg W 9999 40 _ _ (by rw [fields26]; exact und26) held26, fields26]
  simp [go_sem, Op.eqFields, fLo, fHi, part]
  by_cases h1 : a = c
  · by_cases h2 : b = d
    · simp [h1, h2]
    · simp [h1, h2]
  · simp [h1]
theorem eql_sp (x y : Sp) (v : Bool) (h : spEq x y = v) (W : World) : (binOp BinOp.eql 40 (.agg #[.int .i32 x.lo, .int .i32 x.hi]) (.agg #[.int .i32 y.lo, .int .i32 y.hi])).run Tryd.prog W = .ok (.bool v) W := by
  rw [run_eql_struct, equal_sp, ← h]
  rfl
theorem neq_sp (x y : Sp) (v : Bool) (h : (!spEq x y) = v) (W : World) : (binOp BinOp.neq 40 (.agg #[.int .i32 x.lo, .int .i32 x.hi]) (.agg #[.int .i32 y.lo, .int .i32 y.hi])).run Tryd.prog W = .ok (.bool v) W := by
  rw [run_neq_struct, equal_sp, ← h]
  rfl
theorem eqIn_sp (x y : Sp) (v : Bool) (h : spEq x y = v) (W : World) : (Op.equalIn 10000 40 (.agg #[.int .i32 x.lo, .int .i32 x.hi]) (.agg #[.int .i32 y.lo, .int .i32 y.hi])).run Tryd.prog W = .ok v W := by
  rw [equal_sp, ← h]
  rfl
/-- The guard of a comparison of structs: nothing to panic over. -/
theorem guard26 : Tryd.prog.eqGuardType Tryd.prog.depth 40 = false := by kernel_rfl
theorem spEq_self (x : Sp) : spEq x x = true := by simp [spEq]
/-- A rune and a part of all runes. -/
theorem com_one (r : Int) (p : Sp) : spEq (comL ⟨r, r⟩ p) ⟨r, r⟩ = (decide (p.lo ≤ r) && decide (r ≤ p.hi)) := by
  unfold spEq comL
  by_cases h1 : p.lo ≤ r
  · by_cases h2 : r ≤ p.hi
    · have e1 : max r p.lo = r := by omega
      have e2 : min r p.hi = r := by omega
      rw [if_neg (by simp only; omega)]
      simp [e1, e2, h1, h2]
    · rw [if_pos (by simp only; omega)]
      simp [h2]
      omega
  · rw [if_pos (by simp only; omega)]
    simp [h1]
    omega
end Go.Proofs.YtplmmamebfpcjaaDoor
end
