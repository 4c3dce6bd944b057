import Derived.Test.YtplmmamebfpcjaaDoorJ11
import Derived.Test.YtplmmamebfpcjaaDoorJ1
import Derived.Test.YtplmmamebfpcjaaDoorJ5
import Derived.Test.YtplmmamebfpcjaaDoorJ2
import Derived.Laws.AppendOwn
import Derived.Laws.OwnMore
import Derived.Test.YtplmmamebfpcjaaDoorRows
import Derived.WalkKit
import Derived.ProofKit
import Derived.WalkSpells
import Derived.WalkLawsBesides
import Derived.Deep.QuietTactic
import Derived.BigQuiet
import Derived.Test.YtplmmamebfpcjaaDoorJ0
section
/- reader.number behind a refusal; reader.id, reader.end: their contracts. -/
namespace Go.Proofs.YtplmmamebfpcjaaDoor
open Go.RowKit Go.Sort Go.Joins
set_option linter.unusedVariables false
set_option maxRecDepth 100000
set_option maxHeartbeats 1000000 in
theorem number_bad (g : Nat) (s : RS) (r : Er) (lo hi y : Nat) (w : World) (h : RErr w g s r) :
    Calls Tryd.prog 44 #[.pointer (some ⟨g, 0, none⟩), .int .u32 (lo : Nat), .int .u32 (hi : Nat), .int .i64 (y : Nat)] w fun e w' => e = .returned (.int .u32 0) ∧ w' = w := by
  obtain ⟨p, N, h1, h3, h4⟩ := h
  have x2 := h1.c2
  clear h1 h4
  go_enter Tryd.func44, Tryd.ntmps44
  go_wp2_with fail
  go_ret
  exact ⟨rfl, rfl⟩
/-- The end of a call that reads a number, under another form of it. -/
def NumQ (w' : World) (g : Nat) (s : RS) (x : Except Er (Nat × Nat)) (n : Nat) : Prop :=
  match x with
  | .ok (k, q) => n = k ∧ RB w' g { s with p := q }
  | .error r => n = 0 ∧ RErr w' g s r
theorem NumP.as {l : List UInt8} {w w' : World} {g : Nat} {s : RS} {x : Except Er (Nat × Nat)} {f : Nat → Value} {e : Ending} (h : NumP l w g s x f e w') :
    But g w.heap.size w w' ∧ ∃ n, e = .returned (f n) ∧ NumQ w' g s x n := by
  obtain ⟨hb, h⟩ := h
  refine ⟨hb, ?_⟩
  cases x with
  | error r => exact ⟨0, h.1, rfl, h.2⟩
  | ok k => exact ⟨k.1, h.1, rfl, h.2⟩
theorem NumP.mk {l : List UInt8} {w w' : World} {g : Nat} {s : RS} {x : Except Er (Nat × Nat)} {f : Nat → Value} {n : Nat} (hb : But g w.heap.size w w') (h : NumQ w' g s x n) : NumP l w g s x f (.returned (f n)) w' := by
  refine ⟨hb, ?_⟩
  cases x with
  | error r => obtain ⟨rfl, h⟩ := h; exact ⟨rfl, h⟩
  | ok k => obtain ⟨rfl, h⟩ := h; exact ⟨rfl, h⟩
theorem NumQ.le {l : List UInt8} {w' : World} {g : Nat} {s : RS} {lo hi y p : Nat} {n : Nat} (h : NumQ w' g s (numP l lo hi y p) n) : n ≤ hi := by
  cases hx : numP l lo hi y p with
  | error r => rw [hx] at h; rw [h.1]; omega
  | ok k => rw [hx] at h; have := numP_inv hx; rw [h.1]; exact this.2.2.2.2
/-- A number, read on from where the reader is; nothing behind a refusal. -/
def numX (l : List UInt8) (lo hi y : Nat) : Except Er Nat → Nat × Except Er Nat
  | .ok p => (match numP l lo hi y p with | .ok (n, q) => (n, .ok q) | .error e => (0, .error e))
  | .error e => (0, .error e)
theorem numX_error (l : List UInt8) (lo hi y : Nat) (e : Er) : numX l lo hi y (.error e) = (0, .error e) := rfl
theorem numX_ok {l : List UInt8} {lo hi y p n q : Nat} (h : numP l lo hi y p = .ok (n, q)) : numX l lo hi y (.ok p) = (n, .ok q) := by
  show (match numP l lo hi y p with | .ok (n, q) => (n, Except.ok q) | .error e => (0, .error e)) = _
  rw [h]
theorem numX_no {l : List UInt8} {lo hi y p : Nat} {e : Er} (h : numP l lo hi y p = .error e) : numX l lo hi y (.ok p) = (0, .error e) := by
  show (match numP l lo hi y p with | .ok (n, q) => (n, Except.ok q) | .error e => (0, .error e)) = _
  rw [h]
theorem numX_le (l : List UInt8) (lo hi y : Nat) (x : Except Er Nat) : (numX l lo hi y x).1 ≤ hi := by
  cases x with
  | error e => exact Nat.zero_le _
  | ok p =>
    cases hx : numP l lo hi y p with
    | error r => rw [numX_no hx]; exact Nat.zero_le _
    | ok k => rw [numX_ok (n := k.1) (q := k.2) hx]; exact (numP_inv hx).2.2.2.2
theorem numX_bad (l : List UInt8) (lo hi y : Nat) (x : Except Er Nat) {e : Er} (h : (numX l lo hi y x).2 = .error e) : (numX l lo hi y x).1 = 0 := by
  cases x with
  | error e => rfl
  | ok p =>
    cases hx : numP l lo hi y p with
    | error r => rw [numX_no hx]
    | ok k => rw [numX_ok (n := k.1) (q := k.2) hx] at h; cases h
theorem number_uni (g : Nat) (s : RS) (l : List UInt8) (x : Except Er Nat) (lo hi y : Nat) (w : World) (hlo : lo < 4294967296) (hhi : hi < 4294967296) (h : Rx w g s x) (hF : Fl w s l) :
    Calls Tryd.prog 44 #[.pointer (some ⟨g, 0, none⟩), .int .u32 (lo : Nat), .int .u32 (hi : Nat), .int .i64 (y : Nat)] w fun e w' => e = .returned (.int .u32 ((numX l lo hi y x).1 : Nat)) ∧ Rx w' g s (numX l lo hi y x).2 ∧ But g w.heap.size w w' := by
  cases x with
  | error r =>
    refine (number_bad g s r lo hi y w h).mono ?_
    rintro e w1 ⟨rfl, rfl⟩
    exact ⟨rfl, h, But.refl _ _ _⟩
  | ok p =>
    refine (number_any g { s with p := p, no := none } l lo hi y w hlo hhi h rfl ⟨hF.n, hF.le, hF.lim, hF.at'⟩).mono ?_
    rintro e w1 ⟨hb, hm⟩
    simp only at hm
    cases hx : numP l lo hi y p with
    | error r => rw [hx] at hm; rw [numX_no hx]; exact ⟨hm.1, hm.2, hb⟩
    | ok k => rw [hx] at hm; rw [numX_ok (n := k.1) (q := k.2) hx]; exact ⟨hm.1, hm.2, hb⟩
set_option maxHeartbeats 1000000 in
theorem id_uni (g : Nat) (s : RS) (l : List UInt8) (x : Except Er Nat) (w : World) (h : Rx w g s x) (hF : Fl w s l) :
    Calls Tryd.prog 49 #[.pointer (some ⟨g, 0, none⟩)] w fun e w' => e = .returned (.int .i64 ((numX l 0 2147483647 24 x).1 : Nat)) ∧ Rx w' g s (numX l 0 2147483647 24 x).2 ∧ But g w.heap.size w w' := by
  have hN := number_uni g s l x 0 2147483647 24 w (by omega) (by omega) h hF
  have hn := numX_le l 0 2147483647 24 x
  obtain ⟨⟨n, x'⟩, hx⟩ : ∃ r, r = numX l 0 2147483647 24 x := ⟨_, rfl⟩
  rw [← hx] at hN hn ⊢
  clear hx
  simp only at hN hn ⊢
  go_enter Tryd.func49, Tryd.ntmps49
  go_wp2_with fail
  refine hN.mono ?_
  rintro e w1 ⟨rfl, h1, h2⟩
  have H1 : Hid (Rx w1 g s x') := h1
  clear hN h1
  go_wp2_with fail
  go_ret
  exact ⟨rfl, H1.out, h2⟩
set_option maxHeartbeats 1000000 in
theorem end_uni (g : Nat) (s : RS) (l : List UInt8) (x : Except Er Nat) (w : World) (h : Rx w g s x) (hF : Fl w s l) :
    Calls Tryd.prog 51 #[.pointer (some ⟨g, 0, none⟩)] w fun e w' => e = .returned (.int .i32 ((numX l 0 1114111 14 x).1 : Nat)) ∧ Rx w' g s (numX l 0 1114111 14 x).2 ∧ But g w.heap.size w w' := by
  have hN := number_uni g s l x 0 1114111 14 w (by omega) (by omega) h hF
  have hn := numX_le l 0 1114111 14 x
  obtain ⟨⟨n, x'⟩, hx⟩ : ∃ r, r = numX l 0 1114111 14 x := ⟨_, rfl⟩
  rw [← hx] at hN hn ⊢
  clear hx
  simp only at hN hn ⊢
  go_enter Tryd.func51, Tryd.ntmps51
  go_wp2_with fail
  refine hN.mono ?_
  rintro e w1 ⟨rfl, h1, h2⟩
  have H1 : Hid (Rx w1 g s x') := h1
  clear hN h1
  go_wp2_with fail
  go_ret
  exact ⟨rfl, H1.out, h2⟩
end Go.Proofs.YtplmmamebfpcjaaDoor
end
section
/- reader.word: its contract. -/
namespace Go.Proofs.YtplmmamebfpcjaaDoor
open Go.RowKit Go.Sort Go.Joins
set_option linter.unusedVariables false
set_option maxRecDepth 100000
def WordQ (w' : World) (g : Nat) (s : RS) (x : Except Er (ByteArray × Nat)) (t : ByteArray) : Prop :=
  match x with
  | .ok (k, q) => t = k ∧ RB w' g { s with p := q }
  | .error r => RErr w' g s r
theorem gtR_some {l : List UInt8} {p n : Nat} (h : p + 4 ≤ l.length) (hn : n = Oc.num4 l p) (h2 : n ≤ 256) (h3 : p + 4 + n ≤ l.length) : Oc.getTextR l (p : Nat) 256 = ((l.drop (p + 4)).take n, ((p + 4 + n : Nat) : Int), 0) := by
  unfold Oc.getTextR
  rw [getR_in h, ← hn]
  simp only
  rw [if_neg (by simp), if_neg (by omega), if_neg (by omega)]
  have e : ((p : Int) + 4).toNat = p + 4 := by omega
  rw [e]
  simp
theorem gtR_short {l : List UInt8} {p n : Nat} (h : p + 4 ≤ l.length) (hn : n = Oc.num4 l p) (h2 : n ≤ 256) (h3 : ¬ p + 4 + n ≤ l.length) : Oc.getTextR l (p : Nat) 256 = ([], 0, 10) := by
  unfold Oc.getTextR
  rw [getR_in h, ← hn]
  simp only
  rw [if_neg (by simp), if_neg (by omega), if_pos (by omega)]
set_option maxHeartbeats 4000000 in
theorem word6_any (g : Nat) (s : RS) (l : List UInt8) (w : World) (h : RB w g s) (h0 : s.no = none) (hF : Fl w s l) (hB : ∃ w0 : World, Below w0.heap.size w0 w ∧ Oc.BS w0 s.a l ∧ w0.heap.size ≤ g) :
    Calls Tryd.prog 47 #[.pointer (some ⟨g, 0, none⟩)] w fun e w' => But g w.heap.size w w' ∧ ∃ t, e = .returned (.string t) ∧ WordQ w' g s (wordP l s.p) t := by
  obtain ⟨w0, hw0, hbs, hg0⟩ := hB
  have hN := number_any g s l 2 256 21 w (by omega) (by omega) h h0 hF
  have hll := hF.lim
  have hle := hF.le
  have hnn := hF.n
  have hlt := h.lt
  have x1 := h.c1
  have hG := fun W (hb : Oc.BS W s.a l) => Oc.gettext_any s.a s.c l (s.p : Nat) 256 W (by omega) hle hb (by omega) (by omega)
  have hS : ∀ W, But g w.heap.size w W → Oc.BS W s.a l := fun W hW => hbs.below (hw0.trans (hW.below (B' := w0.heap.size) hw0.size hg0))
  have HS : Hid (∀ W, But g w.heap.size w W → Oc.BS W s.a l) := hS
  obtain ⟨sa, sn, sc, p, no, sW, sM, sA, sB, sC, sP, sbl⟩ := s
  simp only at *
  subst h0
  subst hnn
  clear hS hF hbs hw0
  unfold wordP
  cases hx : numP l 2 256 21 p with
  | error r =>
    rw [hx] at hN
    simp only [andP]
    go_enter Tryd.func47, Tryd.ntmps47
    go_wp2_with fail
    refine hN.mono ?_
    intro e w1 he
    obtain ⟨hb, n, rfl, hm⟩ := he.as
    clear hN he x1
    unfold NumQ at hm
    obtain ⟨-, hm⟩ := hm
    have hr := hm
    obtain ⟨p1, N1, k1, k3, k4⟩ := hm
    have x2 := k1.c2
    clear k1 k4 hx hG
    go_wp2_with fail
    go_ret
    exact ⟨hb, _, rfl, hr⟩
  | ok k =>
    obtain ⟨n', q⟩ := k
    rw [hx] at hN
    obtain ⟨i1, rfl, i2, i3, i4⟩ := numP_inv hx
    clear hx
    simp only [andP]
    have HI : Hid (n' = Oc.num4 l p) := i2
    clear i2
    by_cases h3 : p + 4 + n' ≤ l.length
    · rw [if_pos h3]
      go_enter Tryd.func47, Tryd.ntmps47
      go_wp2_with fail
      refine hN.mono ?_
      intro e w1 he
      obtain ⟨hb, n, rfl, hm⟩ := he.as
      clear hN he x1
      unfold NumQ at hm
      obtain ⟨rfl, h1⟩ := hm
      have z0 := h1.c0
      have z2 := h1.c2
      have hG1 := hG w1 (HS.out w1 hb)
      clear hG
      rw [gtR_some i1 HI.out i4 h3] at hG1
      go_wp2_with fail
      refine hG1.mono ?_
      rintro e w2 ⟨rfl, hb2⟩
      have h2 := h1.below hb2 h1.lt
      have f2 := h2.free 1
      have u1 := h2.c1
      have hs := h2.setP (p + 4 + n)
      clear hG1 z0 z2
      go_wp2_with fail
      go_ret
      exact ⟨(hb.trans ((But.of_below hb2).mono hb.size)).setCell 1 _, _, rfl, rfl, hs⟩
    · rw [if_neg h3]
      go_enter Tryd.func47, Tryd.ntmps47
      go_wp2_with fail
      refine hN.mono ?_
      intro e w1 he
      obtain ⟨hb, n, rfl, hm⟩ := he.as
      clear hN he x1
      unfold NumQ at hm
      obtain ⟨rfl, h1⟩ := hm
      have z0 := h1.c0
      have z2 := h1.c2
      have hG1 := hG w1 (HS.out w1 hb)
      clear hG
      rw [gtR_short i1 HI.out i4 h3] at hG1
      go_wp2_with fail
      refine hG1.mono ?_
      rintro e w2 ⟨rfl, hb2⟩
      have h2 := h1.below hb2 h1.lt
      have u0 := h2.c0
      clear hG1 z0 z2
      go_wp2_with fail
      refine (refuse_any g _ l.length 10 w2 h2).mono ?_
      rintro e w3 ⟨rfl, hb3, hb4⟩
      go_wp2_with fail
      go_ret
      exact ⟨(hb.trans ((But.of_below hb2).mono hb.size)).trans (hb4.mono (Nat.le_trans hb.size hb2.size)), _, rfl, hb3⟩
end Go.Proofs.YtplmmamebfpcjaaDoor
end
section
/- Rows of a call's own beside a reader: kept while blocks of other types turn; grown by append. -/
namespace Go.Proofs.YtplmmamebfpcjaaDoor
open Go.RowKit Go.Sort Go.Joins
set_option linter.unusedVariables false
set_option maxRecDepth 100000
/-- Blocks of this type stand as they stood. -/
def KT (T : TypeId) (w w' : World) : Prop := ∀ (k : Nat) cur z, w.heap[k]? = some (.cells cur T z) → w'.heap[k]? = some (.cells cur T z)
theorem KT.refl (T : TypeId) (w : World) : KT T w w := fun _ _ _ h => h
theorem KT.trans {T : TypeId} {a b c : World} (h : KT T a b) (k : KT T b c) : KT T a c := fun i cur z hi => k i cur z (h i cur z hi)
theorem KT.of_below {T : TypeId} {w w' : World} (h : Below w.heap.size w w') : KT T w w' := fun k cur z hk => (h.block k (Array.getElem?_eq_some_iff.1 hk).1).trans hk
theorem own_kt {w w' : World} {base : Nat} {T : TypeId} {k : Nat} {v : Value} {n : Nat} {xs : List Value} (h : w.ownsRow base T k v n xs) (hk : KT T w w') : w'.ownsRow base T k v n xs := by
  refine ⟨h.1, ?_⟩
  rcases h.2 with h0 | ⟨g, cap, cur, hv, hg, hh, r⟩
  · exact .inl h0
  · exact .inr ⟨g, cap, cur, hv, hg, hk _ _ _ hh, r⟩
/-- All that lies below B stays, but for the reader's block: that row as well. -/
theorem own_but {w w' : World} {base B g : Nat} {T : TypeId} {k : Nat} {v : Value} {n : Nat} {xs : List Value} {s : RS} (h : w.ownsRow base T k v n xs) (hb : But g B w w') (hB : w.heap.size ≤ B) (hg : RB w g s) (hT : T ≠ 61) : w'.ownsRow base T k v n xs := by
  refine own_kt h fun i cur z hi => (hb.2.2.2.2 i (Nat.lt_of_lt_of_le (Array.getElem?_eq_some_iff.1 hi).1 hB) ?_).trans hi
  rintro rfl
  rw [hg] at hi
  simp at hi
  exact hT hi.2.1.symm
theorem But.kt {g : Nat} {w w' : World} {s : RS} {T : TypeId} (h : But g w.heap.size w w') (hr : RB w g s) (hT : T ≠ 61) : KT T w w' := by
  intro i cur z hi
  refine (h.2.2.2.2 i (Array.getElem?_eq_some_iff.1 hi).1 ?_).trans hi
  rintro rfl
  rw [hr] at hi
  simp at hi
  exact hT hi.2.1.symm
theorem set_kt {w : World} {g : Nat} {s : RS} {T : TypeId} (hr : RB w g s) (hT : T ≠ 61) (o : Nat) (v : Value) : KT T w (w.setCell ⟨g, o, none⟩ v) := by
  intro i cur z hi
  refine (Below.heap_setCell _ _ _ i ?_).trans hi
  rintro rfl
  rw [hr] at hi
  simp at hi
  exact hT hi.2.1.symm
theorem own_block {w : World} {base : Nat} {T : TypeId} {k : Nat} {v : Value} {n : Nat} {xs : List Value} (h : w.ownsRow base T k v n xs) {i : Nat} (hi : v.ownBlock = some i) : base ≤ i ∧ ∃ cur, w.heap[i]? = some (.cells cur T (0, 0)) := by
  rcases h.2 with ⟨rfl, _⟩ | ⟨g, cap, cur, rfl, hb, hg, _⟩
  · simp [Value.ownBlock] at hi
  · simp [Value.ownBlock] at hi
    subst hi
    exact ⟨hb, cur, hg⟩
theorem grown_kt {w w' : World} {base : Nat} {T T2 : TypeId} {k : Nat} {v : Value} {n : Nat} {xs : List Value} (hg : w.grownBy w' v.ownBlock) (hv : w.ownsRow base T2 k v n xs) (hT : T ≠ T2) : KT T w w' := by
  intro i cur z hi
  refine (hg.block i (Array.getElem?_eq_some_iff.1 hi).1 ?_).trans hi
  intro e
  obtain ⟨_, cur2, h2⟩ := own_block hv e.symm
  rw [hi] at h2
  simp at h2
  exact hT h2.2.1
theorem grown_rb {w w' : World} {base : Nat} {T2 : TypeId} {k : Nat} {v : Value} {n : Nat} {xs : List Value} {g : Nat} {s : RS} (hg : w.grownBy w' v.ownBlock) (hv : w.ownsRow base T2 k v n xs) (hT : 61 ≠ T2) (h : RB w g s) : RB w' g s :=
  grown_kt hg hv hT _ _ _ h
theorem grown_below {w w' : World} {base : Nat} {T2 : TypeId} {k : Nat} {v : Value} {n : Nat} {xs : List Value} (hg : w.grownBy w' v.ownBlock) (hv : w.ownsRow base T2 k v n xs) (hB : base ≤ w.heap.size) : Below base w w' :=
  (Below.refl base w).grown hg hB fun i hi => (own_block hv hi).1
/-- A row of numbers of one's own. -/
def cellsI (l : List Nat) : List Value := l.map fun x => .int .i64 (x : Nat)
def RowI (w : World) (base : Nat) (v : Value) (l : List Nat) : Prop := w.ownsRow base 3 1 v l.length (cellsI l)
def RowW (w : World) (base : Nat) (v : Value) (l : List ByteArray) : Prop := w.ownsRow base 9 1 v l.length (cellsW l)
def RowM (w : World) (base : Nat) (v : Value) (l : List Mg) : Prop := w.ownsRow base 50 3 v l.length (cellsM l)
def RowS (w : World) (base : Nat) (v : Value) (l : List Sp) : Prop := w.ownsRow base 40 2 v l.length (cellsS l)
theorem RowI.nil (w : World) (base : Nat) : RowI w base (.slice none 0 0) [] := World.ownsRow_nil w base _ 1
theorem RowW.nil (w : World) (base : Nat) : RowW w base (.slice none 0 0) [] := World.ownsRow_nil w base _ 1
theorem RowM.nil (w : World) (base : Nat) : RowM w base (.slice none 0 0) [] := World.ownsRow_nil w base _ 3
theorem RowS.nil (w : World) (base : Nat) : RowS w base (.slice none 0 0) [] := World.ownsRow_nil w base _ 2
theorem RowI.kt {w w' : World} {base : Nat} {v : Value} {l : List Nat} (h : RowI w base v l) (hk : KT 3 w w') : RowI w' base v l := own_kt (T := 3) (k := 1) (xs := cellsI l) h hk
theorem RowW.kt {w w' : World} {base : Nat} {v : Value} {l : List ByteArray} (h : RowW w base v l) (hk : KT 9 w w') : RowW w' base v l := own_kt (T := 9) (k := 1) (xs := cellsW l) h hk
theorem RowM.kt {w w' : World} {base : Nat} {v : Value} {l : List Mg} (h : RowM w base v l) (hk : KT 50 w w') : RowM w' base v l := own_kt (T := 50) (k := 3) (xs := cellsM l) h hk
theorem RowS.kt {w w' : World} {base : Nat} {v : Value} {l : List Sp} (h : RowS w base v l) (hk : KT 40 w w') : RowS w' base v l := own_kt (T := 40) (k := 2) (xs := cellsS l) h hk
theorem infoI6 : (Tryd.prog.info? 3).map (fun i => (i.zero, i.size, i.bytes)) = some (some (.int .i64 0), 1, 8) := by kernel_rfl
theorem infoS6 : (Tryd.prog.info? 40).map (fun i => (i.zero, i.size, i.bytes)) = some (some (.agg #[.int .i32 0, .int .i32 0]), 2, 8) := by kernel_rfl
theorem app_int (W : World) (base : Nat) (v : Value) (l : List Nat) (x b cap : Nat) (hown : RowI W base v l) (hx : W.heap[b]? = some (.cells #[.int .i64 (x : Nat)] 3 (0, 0))) (hb : base ≤ W.heap.size) (hsz : l.length ≤ 4194304) :
    ∃ v' w', (Builtin.append_ #[58, 58] 58 #[v, .slice (some ⟨b, 0, none⟩) 1 cap]).run Tryd.prog W = .ok v' w' ∧ RowI w' base v' (l ++ [x]) ∧ W.grownBy w' v.ownBlock := by
  obtain ⟨i0, hi, hz0, hz1, hz2⟩ := info_parts infoI6
  obtain ⟨v', w', h1, h2, h3, _⟩ := run_append_own (P := Tryd.prog) W base 58 58 3 i0 _ 1 8 Tryd.underlying58 hi hz0 hz1 hz2 (by simp [Value.cells]) (by decide) v l.length (cellsI l) hown ⟨b, 0, none⟩ 1 cap [.int .i64 (x : Nat)] rfl (fun j u hu => by
      rw [cell_add, Nat.zero_add, cell_of_block hx]
      simpa using hu) (by simp [Value.oneCell']) (by unfold maxLen; omega) (by omega) hb
  refine ⟨v', w', h1, ?_, h3⟩
  unfold RowI
  rw [List.length_append, show cellsI (l ++ [x]) = cellsI l ++ [.int .i64 (x : Nat)] by simp [cellsI]]
  exact h2
theorem app_word (W : World) (base : Nat) (v : Value) (l : List ByteArray) (x : ByteArray) (b cap : Nat) (hown : RowW W base v l) (hx : W.heap[b]? = some (.cells #[.string x] 9 (0, 0))) (hb : base ≤ W.heap.size) (hsz : l.length ≤ 4194304) :
    ∃ v' w', (Builtin.append_ #[42, 42] 42 #[v, .slice (some ⟨b, 0, none⟩) 1 cap]).run Tryd.prog W = .ok v' w' ∧ RowW w' base v' (l ++ [x]) ∧ W.grownBy w' v.ownBlock := by
  obtain ⟨i0, hi, hz0, hz1, hz2⟩ := info_parts infoW
  obtain ⟨v', w', h1, h2, h3, _⟩ := run_append_own (P := Tryd.prog) W base 42 42 9 i0 _ 1 16 Tryd.underlying42 hi hz0 hz1 hz2 (by simp [Value.cells]) (by decide) v l.length (cellsW l) hown ⟨b, 0, none⟩ 1 cap [.string x] rfl (fun j u hu => by
      rw [cell_add, Nat.zero_add, cell_of_block hx]
      simpa using hu) (by simp [Value.oneCell']) (by unfold maxLen; omega) (by omega) hb
  refine ⟨v', w', h1, ?_, h3⟩
  unfold RowW
  rw [List.length_append, show cellsW (l ++ [x]) = cellsW l ++ [.string x] by simp [cellsW]]
  exact h2
theorem app_merge (W : World) (base : Nat) (v : Value) (l : List Mg) (x : Mg) (b cap : Nat) (hown : RowM W base v l) (hx : W.heap[b]? = some (.cells #[.int .i64 x.l, .int .i64 x.r, .int .i64 x.i] 50 (0, 0))) (hb : base ≤ W.heap.size) (hsz : l.length ≤ 4194304) :
    ∃ v' w', (Builtin.append_ #[43, 43] 43 #[v, .slice (some ⟨b, 0, none⟩) 1 cap]).run Tryd.prog W = .ok v' w' ∧ RowM w' base v' (l ++ [x]) ∧ W.grownBy w' v.ownBlock := by
  obtain ⟨i0, hi, hz0, hz1, hz2⟩ := info_parts infoM
  obtain ⟨v', w', h1, h2, h3, _⟩ := run_append_own (P := Tryd.prog) W base 43 43 50 i0 _ 3 24 Tryd.underlying43 hi hz0 hz1 hz2 (by simp [Value.cells]) (by decide) v l.length (cellsM l) hown ⟨b, 0, none⟩ 1 cap [.int .i64 x.l, .int .i64 x.r, .int .i64 x.i] rfl (fun j u hu => by
      rw [cell_add, Nat.zero_add, cell_of_block hx]
      simpa using hu) (by simp [Value.oneCell']) (by unfold maxLen; omega) (by omega) hb
  refine ⟨v', w', h1, ?_, h3⟩
  unfold RowM
  rw [List.length_append, show cellsM (l ++ [x]) = cellsM l ++ [.int .i64 x.l, .int .i64 x.r, .int .i64 x.i] by simp [cellsM]]
  exact h2
theorem app_span (W : World) (base : Nat) (v : Value) (l : List Sp) (x : Sp) (b cap : Nat) (hown : RowS W base v l) (hx : W.heap[b]? = some (.cells #[.int .i32 x.lo, .int .i32 x.hi] 40 (0, 0))) (hb : base ≤ W.heap.size) (hsz : l.length ≤ 4194304) :
    ∃ v' w', (Builtin.append_ #[41, 41] 41 #[v, .slice (some ⟨b, 0, none⟩) 1 cap]).run Tryd.prog W = .ok v' w' ∧ RowS w' base v' (l ++ [x]) ∧ W.grownBy w' v.ownBlock := by
  obtain ⟨i0, hi, hz0, hz1, hz2⟩ := info_parts infoS6
  obtain ⟨v', w', h1, h2, h3, _⟩ := run_append_own (P := Tryd.prog) W base 41 41 40 i0 _ 2 8 Tryd.underlying41 hi hz0 hz1 hz2 (by simp [Value.cells]) (by decide) v l.length (cellsS l) hown ⟨b, 0, none⟩ 1 cap [.int .i32 x.lo, .int .i32 x.hi] rfl (fun j u hu => by
      rw [cell_add, Nat.zero_add, cell_of_block hx]
      simpa using hu) (by simp [Value.oneCell']) (by unfold maxLen; omega) (by omega) hb
  refine ⟨v', w', h1, ?_, h3⟩
  unfold RowS
  rw [List.length_append, show cellsS (l ++ [x]) = cellsS l ++ [.int .i32 x.lo, .int .i32 x.hi] by simp [cellsS]]
  exact h2
theorem own_form {w : World} {base : Nat} {T : TypeId} {k : Nat} {v : Value} {n : Nat} {xs : List Value} (h : w.ownsRow base T k v n xs) (hn : 0 < n) : ∃ g cap, v = .slice (some ⟨g, 0, none⟩) n cap := by
  rcases h.2 with ⟨_, h0⟩ | ⟨g, cap, cur, hv, _⟩
  · omega
  · exact ⟨g, cap, hv⟩
/-- A variable that holds the reader. -/
def BoxR (w : World) (b g : Nat) : Prop := w.heap[b]? = some (.cells #[.pointer (some ⟨g, 0, none⟩)] 77 (0, 0))
theorem BoxR.cell {w : World} {b g : Nat} (h : BoxR w b g) : w.cell? ⟨b, 0, none⟩ = some (.pointer (some ⟨g, 0, none⟩)) := (cell_of_block h 0).trans rfl
theorem BoxR.kt {w w' : World} {b g : Nat} (h : BoxR w b g) (hk : KT 77 w w') : BoxR w' b g := hk _ _ _ h
theorem RB.kt {w w' : World} {g : Nat} {s : RS} (h : RB w g s) (hk : KT 61 w w') : RB w' g s := hk _ _ _ h
theorem Rf.kt {w w' : World} {N : Nat} {e : Er} (h : Rf w N e) (hk : KT 57 w w') : Rf w' N e := hk _ _ _ h
theorem Rx.kt {w w' : World} {g : Nat} {s : RS} {x : Except Er Nat} (h : Rx w g s x) (h1 : KT 61 w w') (h2 : KT 57 w w') : Rx w' g s x := by
  cases x with
  | ok q => exact RB.kt h h1
  | error e => obtain ⟨p, N, k1, k3, k4⟩ := h; exact ⟨p, N, k1.kt h1, k3, k4.kt h2⟩
end Go.Proofs.YtplmmamebfpcjaaDoor
end
section
/- file.laid: its contract. -/
namespace Go.Proofs.YtplmmamebfpcjaaDoor
open Go.RowKit Go.Sort Go.Joins
set_option linter.unusedVariables false
set_option maxRecDepth 100000
/-- Blocks of all types but bytes' stand as they stood. -/
def KB (w w' : World) : Prop := ∀ T, T ≠ 5 → KT T w w'
theorem KB.refl (w : World) : KB w w := fun T _ => KT.refl T w
theorem KB.trans {a b c : World} (h : KB a b) (k : KB b c) : KB a c := fun T hT => (h T hT).trans (k T hT)
theorem KB.of_below {w w' : World} (h : Below w.heap.size w w') : KB w w' := fun T _ => KT.of_below h
def flat4 (ns : List Nat) : List UInt8 := ns.flatMap Oc.be4
theorem flat4_snoc (ns : List Nat) (n : Nat) : flat4 (ns ++ [n]) = flat4 ns ++ Oc.be4 n := by simp [flat4]
theorem flat4_length (ns : List Nat) : (flat4 ns).length = ns.length * 4 := by
  induction ns with
  | nil => rfl
  | cons n ns ih => simp only [flat4, List.flatMap_cons, List.length_append, List.length_cons] at ih ⊢; rw [ih, show (Oc.be4 n).length = 4 from rfl]; omega
/-- The slice that begins at a holds these numbers, in a block of its own. -/
def NumsAt (w : World) (b : Nat) (ns : List Nat) : Prop := w.heap[b]? = some (.cells (cellsI ns).toArray 3 (0, 0))
theorem NumsAt.cell {w : World} {b : Nat} {ns : List Nat} (h : NumsAt w b ns) {i n : Nat} (hi : ns[i]? = some n) : w.cell? ⟨b, i, none⟩ = some (.int .i64 (n : Nat)) := by
  rw [cell_of_block h]; simp [cellsI, hi]
theorem NumsAt.kt {w w' : World} {b : Nat} {ns : List Nat} (h : NumsAt w b ns) (hk : KB w w') : NumsAt w' b ns := hk _ (by decide) _ _ _ h
theorem app_bytes (W : World) (base : Nat) (v : Value) (l r : List UInt8) (x : Addr) (cap : Nat) (hown : Oc.OwnS W base v l) (h : Oc.BS W (some x) r) (hb : base ≤ W.heap.size) (hsz : l.length + r.length ≤ 140737488355328) :
    ∃ v' w', (Builtin.append_ #[22, 22] 22 #[v, .slice (some x) r.length cap]).run Tryd.prog W = .ok v' w' ∧ Oc.OwnS w' base v' (l ++ r) ∧ Below base W w' ∧ KB W w' := by
  obtain ⟨i0, hi, hz0, hz1, hz2⟩ := info_parts Oc.info5
  obtain ⟨v', w', h1, h2, h3, _⟩ := run_append_own (P := Tryd.prog) W base 22 22 5 i0 (.int .u8 0) 1 1 Tryd.underlying22 hi hz0 hz1 hz2 rfl (by decide) v l.length (Oc.cellsOf l) hown x r.length cap (Oc.cellsOf r) (by rw [Oc.cellsOf_length, Nat.mul_one]) h.cells (Oc.cellsOf_one r) (by unfold maxLen; omega) (by omega) hb
  refine ⟨v', w', h1, ?_, (Below.refl base W).grown h3 hb (fun k hk => (hown.lt k hk).1), fun T hT => grown_kt (T := T) (T2 := 5) (k := 1) (xs := Oc.cellsOf l) h3 hown hT⟩
  unfold Oc.OwnS
  rw [List.length_append, Oc.cellsOf_append]
  exact h2
theorem OwnB.low {w : World} {base B : Nat} {v : Value} {l : List UInt8} (h : Oc.OwnS w base v l) (hB : B ≤ base) : Oc.OwnS w B v l := by
  refine ⟨h.1, ?_⟩
  rcases h.2 with h0 | ⟨g, cap, cur, hv, hg, r⟩
  · exact .inl h0
  · exact .inr ⟨g, cap, cur, hv, Nat.le_trans hB hg, r⟩
set_option maxHeartbeats 4000000 in
theorem laid_any (base b cap : Nat) (v : Value) (bs : List UInt8) (ns : List Nat) (w : World) (hown : Oc.OwnS w base v bs) (hns : NumsAt w b ns) (hlt : ∀ n ∈ ns, n < 4294967296) (hb : base ≤ w.heap.size) (hsz : bs.length + ns.length * 4 ≤ 1073741824) :
    Calls Tryd.prog 11 #[v, .slice (some ⟨b, 0, none⟩) ns.length cap] w fun e w' => ∃ v', e = .returned v' ∧ Oc.OwnS w' base v' (bs ++ flat4 ns) ∧ Below base w w' ∧ KB w w' := by
  have HN : Hid (NumsAt w b ns) := hns
  have HO : Hid (Oc.OwnS w base v bs) := hown
  have HL : Hid (∀ n ∈ ns, n < 4294967296) := hlt
  obtain ⟨m, hm⟩ : ∃ m, m = ns.length := ⟨_, rfl⟩
  rw [← hm]
  have HM : Hid (m = ns.length) := hm
  have hm2 : m * 4 ≤ 1073741824 := by omega
  have hsz2 : bs.length + m * 4 ≤ 1073741824 := by omega
  clear hns hown hlt hm
  go_enter Tryd.func11, Tryd.ntmps11
  go_wp2_with fail
  go_loopw [0, 9] (fun u i wr => ∃ k : Nat, k ≤ m ∧ i = .int .i64 (k : Nat) ∧ Oc.OwnS wr base u (bs ++ flat4 (ns.take k)) ∧ Below base w wr ∧ KB w wr) (fun _ i _ => m - (intOf i).toNat)
  case atStart => exact ⟨0, Nat.zero_le _, rfl, by rw [List.take_zero]; simpa [flat4] using HO.out, Below.refl _ _, KB.refl _⟩
  case round =>
    obtain ⟨k, hk, rfl, hO, hB, hK⟩ := hrel
    by_cases hlt : k < m
    · have hkn : k < ns.length := by rw [← HM.out]; exact hlt
      have hcell := (HN.out.kt hK).cell (List.getElem?_eq_getElem hkn)
      obtain ⟨n, hn⟩ : ∃ n, n = ns[k] := ⟨_, rfl⟩
      have hn4 : n < 4294967296 := by rw [hn]; exact HL.out _ (List.getElem_mem hkn)
      rw [← hn] at hcell
      have hP := Oc.put_any none 0 [] n hn4 wr (by simp) (by simp) (.inl rfl)
      have HNK : Hid (ns.take (k + 1) = ns.take k ++ [n]) := by rw [hn, List.take_succ_eq_append_getElem hkn]; rfl
      have HOK : Hid (Oc.OwnS wr base u0 (bs ++ flat4 (ns.take k))) := hO
      clear hn hO
      go_wp2_with fail
      refine hP.mono ?_
      rintro e w1 ⟨v1, rfl, ho1, hb1⟩
      rw [List.nil_append] at ho1
      obtain ⟨g1, c1, rfl, q1, q2, q3, q4, hbs1⟩ := ho1.form (by show 0 < 4; omega)
      have hO1 : Oc.OwnS w1 base u0 (bs ++ flat4 (ns.take k)) := HOK.out.below hb1 (Nat.le_refl _)
      have hbw : base ≤ wr.heap.size := Nat.le_trans hb hB.size
      obtain ⟨v2, w2, hr2, ho2, hb2, hk2⟩ := app_bytes w1 base u0 _ (Oc.be4 n) ⟨g1, 0, none⟩ c1 hO1 hbs1 (Nat.le_trans hbw hb1.size) (by rw [List.length_append, flat4_length, List.length_take]; show _ + 4 ≤ _; omega)
      have HO2 : Hid (Oc.OwnS w2 base v2 (bs ++ flat4 (ns.take (k + 1)))) := by
        rw [HNK.out, flat4_snoc, ← List.append_assoc]; exact ho2
      have HB2 : Hid (Below base w w2) := (hB.trans (hb1.mono hbw)).trans hb2
      have HK2 : Hid (KB w w2) := (hK.trans (KB.of_below hb1)).trans hk2
      clear hP ho1 hO1 hbs1 ho2 hb2 hk2 hB hK hb1 hcell
      rw [show (Oc.be4 n).length = 4 from rfl] at hr2
      go_wp2_with (at_builtin; refine wpList_append_run rfl (.tmp 13) (.tmp 16) 22 22 rfl _ _ rfl rfl _ w2 hr2 ?_; clear hr2)
      go_roundw
      case rel => exact ⟨k + 1, by omega, by go_num, HO2.out, HB2.out, HK2.out⟩
      case measure => simp only [intOf]; omega
    · have hkm : ns.take k = ns := List.take_of_length_le (by rw [← HM.out]; omega)
      rw [hkm] at hO
      have HOO : Hid (Oc.OwnS wr base u0 (bs ++ flat4 ns)) := hO
      clear hO hkm
      go_wp2_with fail
      go_ret
      exact ⟨_, rfl, HOO.out, hB, hK⟩
set_option maxHeartbeats 4000000 in
/-- Onto a slice that has no room: one number. -/
theorem laid_full (b cap n : Nat) (x : Addr) (bs : List UInt8) (w : World) (hbs : Oc.BS w (some x) bs) (hns : NumsAt w b [n]) (hn4 : n < 4294967296) (hsz : bs.length ≤ 1073741824) :
    Calls Tryd.prog 11 #[.slice (some x) bs.length bs.length, .slice (some ⟨b, 0, none⟩) 1 cap] w fun e w' => ∃ v', e = .returned v' ∧ Oc.OwnS w' w.heap.size v' (bs ++ Oc.be4 n) ∧ Below w.heap.size w w' := by
  have hcell := hns.cell (i := 0) rfl
  have HBS : Hid (Oc.BS w (some x) bs) := hbs
  have hP := Oc.put_any none 0 [] n hn4 w (by simp) (by simp) (.inl rfl)
  clear hbs hns
  obtain ⟨m, hm⟩ : ∃ m, m = bs.length := ⟨_, rfl⟩
  rw [← hm]
  have HM : Hid (m = bs.length) := hm
  have hsz : m ≤ 1073741824 := by omega
  clear hm
  go_enter Tryd.func11, Tryd.ntmps11
  go_wp2_with fail
  go_loopw [0, 9] (fun u i wr => (i = .int .i64 0 ∧ u = .slice (some x) m m ∧ wr = w) ∨ (i = .int .i64 1 ∧ Oc.OwnS wr w.heap.size u (bs ++ Oc.be4 n) ∧ Below w.heap.size w wr)) (fun _ i _ => 1 - (intOf i).toNat)
  case atStart => exact .inl ⟨rfl, rfl, rfl⟩
  case round =>
    rcases hrel with ⟨rfl, rfl, rfl⟩ | ⟨rfl, hO, hB⟩
    · go_wp2_with fail
      refine hP.mono ?_
      rintro e w1 ⟨v1, rfl, ho1, hb1⟩
      rw [List.nil_append] at ho1
      obtain ⟨g1, c1, rfl, q1, q2, q3, q4, hbs1⟩ := ho1.form (by show 0 < 4; omega)
      obtain ⟨v2, w2, hr2, ho2, hb2⟩ := Oc.run_full_bytes w1 (some x) bs (Oc.be4 n) ⟨g1, 0, none⟩ c1 (HBS.out.below hb1) hbs1 (by show 0 < 4; omega) (by rw [← HM.out]; show _ + 4 ≤ _; omega)
      rw [← HM.out, show (Oc.be4 n).length = 4 from rfl] at hr2
      have HO2 : Hid (Oc.OwnS w2 wr.heap.size v2 (bs ++ Oc.be4 n)) := OwnB.low ho2 hb1.size
      have HB2 : Hid (Below wr.heap.size wr w2) := hb1.trans (hb2.mono hb1.size)
      clear hP ho1 hbs1 ho2 hb2 hb1 hcell
      go_wp2_with (at_builtin; refine wpList_append_run rfl (.tmp 13) (.tmp 16) 22 22 rfl _ _ rfl rfl _ w2 hr2 ?_; clear hr2)
      go_roundw
      case rel => exact .inr ⟨rfl, HO2.out, HB2.out⟩
      case measure => simp only [intOf]; decide
    · have HO : Hid (Oc.OwnS wr w.heap.size u0 (bs ++ Oc.be4 n)) := hO
      clear hO
      go_wp2_with fail
      go_ret
      exact ⟨_, rfl, HO.out, hB⟩
end Go.Proofs.YtplmmamebfpcjaaDoor
end
section
/- octet.halfSteps: its table is the four steps of each half byte. -/
namespace Go.Proofs.YtplmmamebfpcjaaDoor.Oc
set_option maxRecDepth 100000
open Go.RowKit
set_option maxHeartbeats 800000 in
theorem half_any (w : World) : Calls Tryd.prog 24 #[] w fun e w' => e = .returned (.agg tabL) ∧ Below w.heap.size w w' := by
  go_enter Tryd.func24, Tryd.ntmps24
  go_wp2
  go_loopw [5] (fun i wr => ∃ (k : Nat) (T : Array Value), k ≤ 16 ∧ i = .int .i64 k ∧ T = tabA k ∧ wr = (w.alloc (.cells #[Value.int IntKind.u32 0, Value.int IntKind.u32 0, Value.int IntKind.u32 0, Value.int IntKind.u32 0,
          Value.int IntKind.u32 0, Value.int IntKind.u32 0, Value.int IntKind.u32 0, Value.int IntKind.u32 0,
          Value.int IntKind.u32 0, Value.int IntKind.u32 0, Value.int IntKind.u32 0, Value.int IntKind.u32 0,
          Value.int IntKind.u32 0, Value.int IntKind.u32 0, Value.int IntKind.u32 0, Value.int IntKind.u32 0] 75)).alloc (.cells T 75)) (fun i _ => 16 - (intOf i).toNat)
  case atStart => exact ⟨0, _, Nat.zero_le _, rfl, tabA_zero.symm, rfl⟩
  case round =>
    obtain ⟨k, T, hk, rfl, hT, rfl⟩ := hrel
    have HT : Hid (T = tabA k) := hT
    clear hT
    by_cases hlt : k < 16
    · go_wp2
      go_loop [3, 10] (fun n j => ∃ q : Nat, q ≤ 4 ∧ j = .int .i64 q ∧ ∃ m : Nat, n = .int .u32 m ∧ m = hsN q k) (fun _ j => 4 - (intOf j).toNat)
      case atStart => exact ⟨0, Nat.zero_le _, rfl, k, by go_num, rfl⟩
      case round =>
        obtain ⟨q, hq, rfl, m, rfl, hm⟩ := hrel
        have hb := hsN_lt q k (by omega)
        rw [← hm] at hb
        have HM : Hid (m = hsN q k) := hm
        clear hm
        by_cases hq4 : q < 4
        · by_cases hodd : m % 2 = 1
          · have hat := odd_in m hb hodd
            have HB : Hid (m < 4294967296) := hb
            clear hb
            go_wp2
            exact ⟨⟨q + 1, by omega, by go_num, _, int_eq (odd_out m HB.out hodd), by rw [HM.out]; rfl⟩, by simp [intOf]; omega⟩
          · have hat := even_in m hb hodd
            have HB : Hid (m < 4294967296) := hb
            clear hb
            go_wp2
            exact ⟨⟨q + 1, by omega, by go_num, _, int_eq (even_out m hodd), by rw [HM.out]; rfl⟩, by simp [intOf]; omega⟩
        · clear hb
          have hq4' : q = 4 := by omega
          subst hq4'
          have hsz : T.size = 16 := by rw [HT.out]; exact tabA_size k
          go_wp2
          exact ⟨⟨k + 1, _, by omega, by go_num, by rw [HT.out, HM.out]; exact tabA_set k hlt, rfl⟩, by simp [intOf]; omega⟩
    · have hk16 : k = 16 := by omega
      subst hk16
      have hT16 : T = tabL := HT.out.trans tabL_eq
      clear HT
      subst hT16
      unfold tabL
      go_wp2
      refine bodyPost_ret (v := .agg tabL) ?_ rfl ⟨rfl, ((Below.refl _ _).alloc (Nat.le_refl _) _).alloc (by simp) _⟩
      simp [results, Tryd.results24, go_sem, tabL]
end Go.Proofs.YtplmmamebfpcjaaDoor.Oc
end
section
/- octet.Sum: its contract: the sum of the bytes; only new memory is made. -/
namespace Go.Proofs.YtplmmamebfpcjaaDoor.Oc
set_option maxRecDepth 100000
open Go.RowKit
theorem sum_step (x : Nat) : hsN 8 x = ((x / 16 ^^^ hsN 4 (x % 16)) / 16) ^^^ hsN 4 ((x / 16 ^^^ hsN 4 (x % 16)) % 16) := by
  rw [show (8 : Nat) = 4 + 4 from rfl, hsN_add, ← hs4 x, ← hs4]
theorem half_lit (w : World) : Calls Tryd.prog 24 #[] w fun e w' => e = .returned (.agg #[Value.int IntKind.u32 0x00000000, Value.int IntKind.u32 0x1db71064, Value.int IntKind.u32 0x3b6e20c8, Value.int IntKind.u32 0x26d930ac, Value.int IntKind.u32 0x76dc4190, Value.int IntKind.u32 0x6b6b51f4, Value.int IntKind.u32 0x4db26158, Value.int IntKind.u32 0x5005713c, Value.int IntKind.u32 0xedb88320, Value.int IntKind.u32 0xf00f9344, Value.int IntKind.u32 0xd6d6a3e8, Value.int IntKind.u32 0xcb61b38c, Value.int IntKind.u32 0x9b64c2b0, Value.int IntKind.u32 0x86d3d2d4, Value.int IntKind.u32 0xa00ae278, Value.int IntKind.u32 0xbdbdf21c]) ∧ Below w.heap.size w w' := half_any w
set_option maxHeartbeats 800000 in
theorem sum_some (b off cap : Nat) (l : List UInt8) (w : World) (hlen : l.length ≤ 9223372036854775807) (hc : ∀ j, j < l.length → w.cell? ⟨b, off + j, none⟩ = some (.int .u8 ((l.getD j 0).toNat : Int))) :
    Calls Tryd.prog 14 #[.slice (some ⟨b, off, none⟩) l.length cap] w fun e w' => e = .returned (.int .u32 (crc l : Nat)) ∧ Below w.heap.size w w' := by
  go_enter Tryd.func14, Tryd.ntmps14
  go_wp2_with (go_at_call 24; refine (half_lit _).mono ?_; rintro e w1 ⟨rfl, hb1⟩)
  obtain ⟨W, hW⟩ : ∃ W, W = w1.alloc (.cells tabL 75) := ⟨_, rfl⟩
  have hT : ∀ m, m < 16 → W.cell? ⟨w1.heap.size, m, none⟩ = some (.int .u32 (hsN 4 m : Nat)) := by
    intro m hm; rw [hW, World.cell?_alloc_at _ _ _ _ rfl]; exact tabL_get m hm
  have hbW : Below w.heap.size w W := by rw [hW]; exact hb1.alloc hb1.size _
  have hcW : ∀ j, j < l.length → W.cell? ⟨b, off + j, none⟩ = some (.int .u8 ((l.getD j 0).toNat : Int)) := fun j hj => by
    rw [hbW.cell (World.block_lt_of_cell? w _ (hc j hj))]; exact hc j hj
  unfold tabL at hW
  rw [← hW]
  obtain ⟨g, hg⟩ : ∃ g, g = w1.heap.size := ⟨_, rfl⟩
  rw [← hg] at hT ⊢
  clear hW hb1 hg hc
  go_loop [4, 10] (fun r i => ∃ (k n : Nat), k ≤ l.length ∧ i = .int .i64 k ∧ r = .int .u32 n ∧ n = crcR 4294967295 (l.take k)) (fun _ i => l.length - (intOf i).toNat)
  case atStart => exact ⟨0, 4294967295, Nat.zero_le _, rfl, rfl, rfl⟩
  case round =>
    obtain ⟨k, n, hk, rfl, rfl, hn⟩ := hrel
    have hnb : n < 4294967296 := by rw [hn]; exact crcR_lt _ _ (by omega)
    by_cases hlt : k < l.length
    · obtain ⟨c, hcd⟩ : ∃ c : Nat, c = (l.getD k 0).toNat := ⟨_, rfl⟩
      have hcell := hcW k hlt
      rw [← hcd] at hcell
      have hcb : c < 256 := by rw [hcd]; exact UInt8.toNat_lt _
      obtain ⟨x, hx⟩ : ∃ x : Nat, x = n ^^^ c := ⟨_, rfl⟩
      have hxb : x < 4294967296 := by rw [hx]; exact Nat.xor_lt_two_pow (n := 32) hnb (by omega)
      have e1 : bits BinOp.xor IntKind.u32 (n : Int) (c : Int) = (x : Int) := by rw [hx]; exact u32_xor_nat n c hnb (by omega)
      have e2 := and15 x hxb
      have t1 := hT (x % 16) (by omega)
      have hyb : x / 16 ^^^ hsN 4 (x % 16) < 4294967296 := by rw [← hs4]; exact hsN_lt _ _ hxb
      have e3 := u32_xor_nat (x / 16) (hsN 4 (x % 16)) (by omega) (hsN_lt _ _ (by omega))
      have hst := sum_step x
      obtain ⟨s1, hs1'⟩ : ∃ s, s = hsN 4 (x % 16) := ⟨_, rfl⟩
      rw [← hs1'] at t1 e3 hyb hst
      obtain ⟨y, hy⟩ : ∃ y, y = x / 16 ^^^ s1 := ⟨_, rfl⟩
      rw [← hy] at e3 hyb hst
      have e4 := and15 y hyb
      have t2 := hT (y % 16) (by omega)
      have e5 := u32_xor_nat (y / 16) (hsN 4 (y % 16)) (by omega) (hsN_lt _ _ (by omega))
      obtain ⟨s2, hs2⟩ : ∃ s, s = hsN 4 (y % 16) := ⟨_, rfl⟩
      rw [← hs2] at t2 e5 hst
      have hnext : y / 16 ^^^ s2 = crcR 4294967295 (l.take (k + 1)) := by
        rw [crcR_snoc _ _ _ hlt, ← hn, ← hcd, ← hx]; exact hst.symm
      rw [show ((x / 16 : Nat) : Int) = (x : Int) / 16 from by omega] at e3
      rw [show ((y / 16 : Nat) : Int) = (y : Int) / 16 from by omega] at e5
      rw [show ((x % 16 : Nat) : Int) = (x : Int) % 16 from by omega] at e2
      rw [show ((y % 16 : Nat) : Int) = (y : Int) % 16 from by omega] at e4
      rw [hnext] at e5
      clear hnb hxb hyb hn hx hcd hs1' hy hs2 hst hnext hT hcW
      go_wp2
      exact ⟨⟨k + 1, _, by omega, by go_num, rfl, rfl⟩, by simp [intOf]; omega⟩
    · have hkl : k = l.length := by omega
      subst hkl
      rw [List.take_length] at hn
      have HB : Hid (n < 4294967296) := hnb
      have HN : Hid (n = crcR 4294967295 l) := hn
      clear hnb hn hT hcW
      go_wp2
      go_ret
      refine ⟨?_, hbW⟩
      have := u32_xor_nat 4294967295 n (by omega) HB.out
      rw [show IntKind.u32.max = ((4294967295 : Nat) : Int) from rfl, this, HN.out]
      rfl
theorem sum_none (a : Option Addr) (cap : Nat) (w : World) :
    Calls Tryd.prog 14 #[.slice a 0 cap] w fun e w' => e = .returned (.int .u32 0) ∧ Below w.heap.size w w' := by
  go_enter Tryd.func14, Tryd.ntmps14
  go_wp2_with (go_at_call 24; refine (half_lit _).mono ?_; rintro e w1 ⟨rfl, hb1⟩)
  refine wp_loop_rounds 1 ?_
  rw [rounds_succ]
  go_wp2
  go_ret
  exact ⟨rfl, hb1.alloc hb1.size _⟩
/-- THE CONTRACT: of any list of bytes. -/
theorem sum_any (a : Option Addr) (cap : Nat) (l : List UInt8) (w : World) (hlen : l.length ≤ 9223372036854775807) (h : BS w a l) :
    Calls Tryd.prog 14 #[.slice a l.length cap] w fun e w' => e = .returned (.int .u32 (crc l : Nat)) ∧ Below w.heap.size w w' := by
  rcases h with rfl | ⟨b, off, rfl, hc⟩
  · exact sum_none a cap w
  · exact sum_some b off cap l w hlen hc
end Go.Proofs.YtplmmamebfpcjaaDoor.Oc
end
