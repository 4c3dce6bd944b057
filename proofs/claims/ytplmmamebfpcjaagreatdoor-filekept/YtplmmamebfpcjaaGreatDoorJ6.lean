import Derived.Test.YtplmmamebfpcjaaGreatDoorJ5
import Derived.Test.YtplmmamebfpcjaaGreatDoorJ0
import Derived.Test.YtplmmamebfpcjaaGreatDoorJ4
import Derived.Test.YtplmmamebfpcjaaGreatDoorJ1
import Derived.Laws.AppendOwn
import Derived.Laws.OwnMore
import Derived.Test.YtplmmamebfpcjaaGreatDoorJ2
import Derived.Test.YtplmmamebfpcjaaGreatDoorJ3
section
/- reader.number behind a refusal; reader.id, reader.end: their contracts. -/
namespace Go.Proofs.YtplmmamebfpcjaaGreatDoor
open Go.RowKit Go.Sort Go.Joins
set_option linter.unusedVariables false
set_option maxRecDepth 100000
set_option maxHeartbeats 1000000 in
theorem number_bad (g : Nat) (s : RS) (r : Er) (lo hi y : Nat) (w : World) (h : RErr w g s r) :
    Calls Tryz.prog 85 #[.pointer (some ⟨g, 0, none⟩), .int .u32 (lo : Nat), .int .u32 (hi : Nat), .int .i64 (y : Nat)] w fun e w' => e = .returned (.int .u32 0) ∧ w' = w := by
  obtain ⟨p, N, h1, h3, h4⟩ := h
  have x2 := h1.c2
  clear h1 h4
  go_enter Tryz.func85, Tryz.ntmps85
  go_wp2_with fail
  go_ret
  exact ⟨rfl, rfl⟩
/-- The end of a call that reads a number, under another form of it. -/
def NumQ (w' : World) (g : Nat) (s : RS) (x : Except Er (Nat × Nat)) (n : Nat) : Prop :=
  match x with
  | .ok (k, q) => n = k ∧ RB w' g { s with p := q }
  | .error r => n = 0 ∧ RErr w' g s r
theorem NumP.as {l : List UInt8} {w w' : World} {g : Nat} {s : RS} {x : Except Er (Nat × Nat)} {f : Nat → Value} {e : Ending} (h : NumP l w g s x f e w') :
    But g w.heap.size w w' ∧ ∃ n, e = .returned (f n) ∧ NumQ w' g s x n := by
  obtain ⟨hb, h⟩ := h
  refine ⟨hb, ?_⟩
  cases x with
  | error r => exact ⟨0, h.1, rfl, h.2⟩
  | ok k => exact ⟨k.1, h.1, rfl, h.2⟩
theorem NumP.mk {l : List UInt8} {w w' : World} {g : Nat} {s : RS} {x : Except Er (Nat × Nat)} {f : Nat → Value} {n : Nat} (hb : But g w.heap.size w w') (h : NumQ w' g s x n) : NumP l w g s x f (.returned (f n)) w' := by
  refine ⟨hb, ?_⟩
  cases x with
  | error r => obtain ⟨rfl, h⟩ := h; exact ⟨rfl, h⟩
  | ok k => obtain ⟨rfl, h⟩ := h; exact ⟨rfl, h⟩
theorem NumQ.le {l : List UInt8} {w' : World} {g : Nat} {s : RS} {lo hi y p : Nat} {n : Nat} (h : NumQ w' g s (numP l lo hi y p) n) : n ≤ hi := by
  cases hx : numP l lo hi y p with
  | error r => rw [hx] at h; rw [h.1]; omega
  | ok k => rw [hx] at h; have := numP_inv hx; rw [h.1]; exact this.2.2.2.2
/-- A number, read on from where the reader is; nothing behind a refusal. -/
def numX (l : List UInt8) (lo hi y : Nat) : Except Er Nat → Nat × Except Er Nat
  | .ok p => (match numP l lo hi y p with | .ok (n, q) => (n, .ok q) | .error e => (0, .error e))
  | .error e => (0, .error e)
theorem numX_error (l : List UInt8) (lo hi y : Nat) (e : Er) : numX l lo hi y (.error e) = (0, .error e) := rfl
theorem numX_ok {l : List UInt8} {lo hi y p n q : Nat} (h : numP l lo hi y p = .ok (n, q)) : numX l lo hi y (.ok p) = (n, .ok q) := by
  show (match numP l lo hi y p with | .ok (n, q) => (n, Except.ok q) | .error e => (0, .error e)) = _
  rw [h]
theorem numX_no {l : List UInt8} {lo hi y p : Nat} {e : Er} (h : numP l lo hi y p = .error e) : numX l lo hi y (.ok p) = (0, .error e) := by
  show (match numP l lo hi y p with | .ok (n, q) => (n, Except.ok q) | .error e => (0, .error e)) = _
  rw [h]
theorem numX_le (l : List UInt8) (lo hi y : Nat) (x : Except Er Nat) : (numX l lo hi y x).1 ≤ hi := by
  cases x with
  | error e => exact Nat.zero_le _
  | ok p =>
    cases hx : numP l lo hi y p with
    | error r => rw [numX_no hx]; exact Nat.zero_le _
    | ok k => rw [numX_ok (n := k.1) (q := k.2) hx]; exact (numP_inv hx).2.2.2.2
theorem numX_bad (l : List UInt8) (lo hi y : Nat) (x : Except Er Nat) {e : Er} (h : (numX l lo hi y x).2 = .error e) : (numX l lo hi y x).1 = 0 := by
  cases x with
  | error e => rfl
  | ok p =>
    cases hx : numP l lo hi y p with
    | error r => rw [numX_no hx]
    | ok k => rw [numX_ok (n := k.1) (q := k.2) hx] at h; cases h
theorem number_uni (g : Nat) (s : RS) (l : List UInt8) (x : Except Er Nat) (lo hi y : Nat) (w : World) (hlo : lo < 4294967296) (hhi : hi < 4294967296) (h : Rx w g s x) (hF : Fl w s l) :
    Calls Tryz.prog 85 #[.pointer (some ⟨g, 0, none⟩), .int .u32 (lo : Nat), .int .u32 (hi : Nat), .int .i64 (y : Nat)] w fun e w' => e = .returned (.int .u32 ((numX l lo hi y x).1 : Nat)) ∧ Rx w' g s (numX l lo hi y x).2 ∧ But g w.heap.size w w' := by
  cases x with
  | error r =>
    refine (number_bad g s r lo hi y w h).mono ?_
    rintro e w1 ⟨rfl, rfl⟩
    exact ⟨rfl, h, But.refl _ _ _⟩
  | ok p =>
    refine (number_any g { s with p := p, no := none } l lo hi y w hlo hhi h rfl ⟨hF.n, hF.le, hF.lim, hF.at'⟩).mono ?_
    rintro e w1 ⟨hb, hm⟩
    simp only at hm
    cases hx : numP l lo hi y p with
    | error r => rw [hx] at hm; rw [numX_no hx]; exact ⟨hm.1, hm.2, hb⟩
    | ok k => rw [hx] at hm; rw [numX_ok (n := k.1) (q := k.2) hx]; exact ⟨hm.1, hm.2, hb⟩
set_option maxHeartbeats 1000000 in
theorem id_uni (g : Nat) (s : RS) (l : List UInt8) (x : Except Er Nat) (w : World) (h : Rx w g s x) (hF : Fl w s l) :
    Calls Tryz.prog 90 #[.pointer (some ⟨g, 0, none⟩)] w fun e w' => e = .returned (.int .i64 ((numX l 0 2147483647 24 x).1 : Nat)) ∧ Rx w' g s (numX l 0 2147483647 24 x).2 ∧ But g w.heap.size w w' := by
  have hN := number_uni g s l x 0 2147483647 24 w (by omega) (by omega) h hF
  have hn := numX_le l 0 2147483647 24 x
  obtain ⟨⟨n, x'⟩, hx⟩ : ∃ r, r = numX l 0 2147483647 24 x := ⟨_, rfl⟩
  rw [← hx] at hN hn ⊢
  clear hx
  simp only at hN hn ⊢
  go_enter Tryz.func90, Tryz.ntmps90
  go_wp2_with fail
  refine hN.mono ?_
  rintro e w1 ⟨rfl, h1, h2⟩
  have H1 : Hid (Rx w1 g s x') := h1
  clear hN h1
  go_wp2_with fail
  go_ret
  exact ⟨rfl, H1.out, h2⟩
set_option maxHeartbeats 1000000 in
theorem end_uni (g : Nat) (s : RS) (l : List UInt8) (x : Except Er Nat) (w : World) (h : Rx w g s x) (hF : Fl w s l) :
    Calls Tryz.prog 92 #[.pointer (some ⟨g, 0, none⟩)] w fun e w' => e = .returned (.int .i32 ((numX l 0 1114111 14 x).1 : Nat)) ∧ Rx w' g s (numX l 0 1114111 14 x).2 ∧ But g w.heap.size w w' := by
  have hN := number_uni g s l x 0 1114111 14 w (by omega) (by omega) h hF
  have hn := numX_le l 0 1114111 14 x
  obtain ⟨⟨n, x'⟩, hx⟩ : ∃ r, r = numX l 0 1114111 14 x := ⟨_, rfl⟩
  rw [← hx] at hN hn ⊢
  clear hx
  simp only at hN hn ⊢
  go_enter Tryz.func92, Tryz.ntmps92
  go_wp2_with fail
  refine hN.mono ?_
  rintro e w1 ⟨rfl, h1, h2⟩
  have H1 : Hid (Rx w1 g s x') := h1
  clear hN h1
  go_wp2_with fail
  go_ret
  exact ⟨rfl, H1.out, h2⟩
end Go.Proofs.YtplmmamebfpcjaaGreatDoor
end
section
/- reader.word: its contract. -/
namespace Go.Proofs.YtplmmamebfpcjaaGreatDoor
open Go.RowKit Go.Sort Go.Joins
set_option linter.unusedVariables false
set_option maxRecDepth 100000
def WordQ (w' : World) (g : Nat) (s : RS) (x : Except Er (ByteArray × Nat)) (t : ByteArray) : Prop :=
  match x with
  | .ok (k, q) => t = k ∧ RB w' g { s with p := q }
  | .error r => RErr w' g s r
theorem gtR_some {l : List UInt8} {p n : Nat} (h : p + 4 ≤ l.length) (hn : n = Oc.num4 l p) (h2 : n ≤ 256) (h3 : p + 4 + n ≤ l.length) : Oc.getTextR l (p : Nat) 256 = ((l.drop (p + 4)).take n, ((p + 4 + n : Nat) : Int), 0) := by
  unfold Oc.getTextR
  rw [getR_in h, ← hn]
  simp only
  rw [if_neg (by simp), if_neg (by omega), if_neg (by omega)]
  have e : ((p : Int) + 4).toNat = p + 4 := by omega
  rw [e]
  simp
theorem gtR_short {l : List UInt8} {p n : Nat} (h : p + 4 ≤ l.length) (hn : n = Oc.num4 l p) (h2 : n ≤ 256) (h3 : ¬ p + 4 + n ≤ l.length) : Oc.getTextR l (p : Nat) 256 = ([], 0, 10) := by
  unfold Oc.getTextR
  rw [getR_in h, ← hn]
  simp only
  rw [if_neg (by simp), if_neg (by omega), if_pos (by omega)]
set_option maxHeartbeats 4000000 in
theorem word6_any (g : Nat) (s : RS) (l : List UInt8) (w : World) (h : RB w g s) (h0 : s.no = none) (hF : Fl w s l) (hB : ∃ w0 : World, Below w0.heap.size w0 w ∧ Oc.BS w0 s.a l ∧ w0.heap.size ≤ g) :
    Calls Tryz.prog 88 #[.pointer (some ⟨g, 0, none⟩)] w fun e w' => But g w.heap.size w w' ∧ ∃ t, e = .returned (.string t) ∧ WordQ w' g s (wordP l s.p) t := by
  obtain ⟨w0, hw0, hbs, hg0⟩ := hB
  have hN := number_any g s l 2 256 21 w (by omega) (by omega) h h0 hF
  have hll := hF.lim
  have hle := hF.le
  have hnn := hF.n
  have hlt := h.lt
  have x1 := h.c1
  have hG := fun W (hb : Oc.BS W s.a l) => Oc.gettext_any s.a s.c l (s.p : Nat) 256 W (by omega) hle hb (by omega) (by omega)
  have hS : ∀ W, But g w.heap.size w W → Oc.BS W s.a l := fun W hW => hbs.below (hw0.trans (hW.below (B' := w0.heap.size) hw0.size hg0))
  have HS : Hid (∀ W, But g w.heap.size w W → Oc.BS W s.a l) := hS
  obtain ⟨sa, sn, sc, p, no, sW, sM, sA, sB, sC, sP, sbl⟩ := s
  simp only at *
  subst h0
  subst hnn
  clear hS hF hbs hw0
  unfold wordP
  cases hx : numP l 2 256 21 p with
  | error r =>
    rw [hx] at hN
    simp only [andP]
    go_enter Tryz.func88, Tryz.ntmps88
    go_wp2_with fail
    refine hN.mono ?_
    intro e w1 he
    obtain ⟨hb, n, rfl, hm⟩ := he.as
    clear hN he x1
    unfold NumQ at hm
    obtain ⟨-, hm⟩ := hm
    have hr := hm
    obtain ⟨p1, N1, k1, k3, k4⟩ := hm
    have x2 := k1.c2
    clear k1 k4 hx hG
    go_wp2_with fail
    go_ret
    exact ⟨hb, _, rfl, hr⟩
  | ok k =>
    obtain ⟨n', q⟩ := k
    rw [hx] at hN
    obtain ⟨i1, rfl, i2, i3, i4⟩ := numP_inv hx
    clear hx
    simp only [andP]
    have HI : Hid (n' = Oc.num4 l p) := i2
    clear i2
    by_cases h3 : p + 4 + n' ≤ l.length
    · rw [if_pos h3]
      go_enter Tryz.func88, Tryz.ntmps88
      go_wp2_with fail
      refine hN.mono ?_
      intro e w1 he
      obtain ⟨hb, n, rfl, hm⟩ := he.as
      clear hN he x1
      unfold NumQ at hm
      obtain ⟨rfl, h1⟩ := hm
      have z0 := h1.c0
      have z2 := h1.c2
      have hG1 := hG w1 (HS.out w1 hb)
      clear hG
      rw [gtR_some i1 HI.out i4 h3] at hG1
      go_wp2_with fail
      refine hG1.mono ?_
      rintro e w2 ⟨rfl, hb2⟩
      have h2 := h1.below hb2 h1.lt
      have f2 := h2.free 1
      have u1 := h2.c1
      have hs := h2.setP (p + 4 + n)
      clear hG1 z0 z2
      go_wp2_with fail
      go_ret
      exact ⟨(hb.trans ((But.of_below hb2).mono hb.size)).setCell 1 _, _, rfl, rfl, hs⟩
    · rw [if_neg h3]
      go_enter Tryz.func88, Tryz.ntmps88
      go_wp2_with fail
      refine hN.mono ?_
      intro e w1 he
      obtain ⟨hb, n, rfl, hm⟩ := he.as
      clear hN he x1
      unfold NumQ at hm
      obtain ⟨rfl, h1⟩ := hm
      have z0 := h1.c0
      have z2 := h1.c2
      have hG1 := hG w1 (HS.out w1 hb)
      clear hG
      rw [gtR_short i1 HI.out i4 h3] at hG1
      go_wp2_with fail
      refine hG1.mono ?_
      rintro e w2 ⟨rfl, hb2⟩
      have h2 := h1.below hb2 h1.lt
      have u0 := h2.c0
      clear hG1 z0 z2
      go_wp2_with fail
      refine (refuse_any g _ l.length 10 w2 h2).mono ?_
      rintro e w3 ⟨rfl, hb3, hb4⟩
      go_wp2_with fail
      go_ret
      exact ⟨(hb.trans ((But.of_below hb2).mono hb.size)).trans (hb4.mono (Nat.le_trans hb.size hb2.size)), _, rfl, hb3⟩
end Go.Proofs.YtplmmamebfpcjaaGreatDoor
end
section
/- Rows of a call's own beside a reader: kept while blocks of other types turn; grown by append. -/
namespace Go.Proofs.YtplmmamebfpcjaaGreatDoor
open Go.RowKit Go.Sort Go.Joins
set_option linter.unusedVariables false
set_option maxRecDepth 100000
/-- Blocks of this type stand as they stood. -/
def KT (T : TypeId) (w w' : World) : Prop := ∀ (k : Nat) cur z, w.heap[k]? = some (.cells cur T z) → w'.heap[k]? = some (.cells cur T z)
theorem KT.refl (T : TypeId) (w : World) : KT T w w := fun _ _ _ h => h
theorem KT.trans {T : TypeId} {a b c : World} (h : KT T a b) (k : KT T b c) : KT T a c := fun i cur z hi => k i cur z (h i cur z hi)
theorem KT.of_below {T : TypeId} {w w' : World} (h : Below w.heap.size w w') : KT T w w' := fun k cur z hk => (h.block k (Array.getElem?_eq_some_iff.1 hk).1).trans hk
theorem own_kt {w w' : World} {base : Nat} {T : TypeId} {k : Nat} {v : Value} {n : Nat} {xs : List Value} (h : w.ownsRow base T k v n xs) (hk : KT T w w') : w'.ownsRow base T k v n xs := by
  refine ⟨h.1, ?_⟩
  rcases h.2 with h0 | ⟨g, cap, cur, hv, hg, hh, r⟩
  · exact .inl h0
  · exact .inr ⟨g, cap, cur, hv, hg, hk _ _ _ hh, r⟩
/-- All that lies below B stays, but for the reader's block: that row as well. -/
theorem own_but {w w' : World} {base B g : Nat} {T : TypeId} {k : Nat} {v : Value} {n : Nat} {xs : List Value} {s : RS} (h : w.ownsRow base T k v n xs) (hb : But g B w w') (hB : w.heap.size ≤ B) (hg : RB w g s) (hT : T ≠ 88) : w'.ownsRow base T k v n xs := by
  refine own_kt h fun i cur z hi => (hb.2.2.2.2 i (Nat.lt_of_lt_of_le (Array.getElem?_eq_some_iff.1 hi).1 hB) ?_).trans hi
  rintro rfl
  rw [hg] at hi
  simp at hi
  exact hT hi.2.1.symm
theorem But.kt {g : Nat} {w w' : World} {s : RS} {T : TypeId} (h : But g w.heap.size w w') (hr : RB w g s) (hT : T ≠ 88) : KT T w w' := by
  intro i cur z hi
  refine (h.2.2.2.2 i (Array.getElem?_eq_some_iff.1 hi).1 ?_).trans hi
  rintro rfl
  rw [hr] at hi
  simp at hi
  exact hT hi.2.1.symm
theorem set_kt {w : World} {g : Nat} {s : RS} {T : TypeId} (hr : RB w g s) (hT : T ≠ 88) (o : Nat) (v : Value) : KT T w (w.setCell ⟨g, o, none⟩ v) := by
  intro i cur z hi
  refine (Below.heap_setCell _ _ _ i ?_).trans hi
  rintro rfl
  rw [hr] at hi
  simp at hi
  exact hT hi.2.1.symm
theorem own_block {w : World} {base : Nat} {T : TypeId} {k : Nat} {v : Value} {n : Nat} {xs : List Value} (h : w.ownsRow base T k v n xs) {i : Nat} (hi : v.ownBlock = some i) : base ≤ i ∧ ∃ cur, w.heap[i]? = some (.cells cur T (0, 0)) := by
  rcases h.2 with ⟨rfl, _⟩ | ⟨g, cap, cur, rfl, hb, hg, _⟩
  · simp [Value.ownBlock] at hi
  · simp [Value.ownBlock] at hi
    subst hi
    exact ⟨hb, cur, hg⟩
theorem grown_kt {w w' : World} {base : Nat} {T T2 : TypeId} {k : Nat} {v : Value} {n : Nat} {xs : List Value} (hg : w.grownBy w' v.ownBlock) (hv : w.ownsRow base T2 k v n xs) (hT : T ≠ T2) : KT T w w' := by
  intro i cur z hi
  refine (hg.block i (Array.getElem?_eq_some_iff.1 hi).1 ?_).trans hi
  intro e
  obtain ⟨_, cur2, h2⟩ := own_block hv e.symm
  rw [hi] at h2
  simp at h2
  exact hT h2.2.1
theorem grown_rb {w w' : World} {base : Nat} {T2 : TypeId} {k : Nat} {v : Value} {n : Nat} {xs : List Value} {g : Nat} {s : RS} (hg : w.grownBy w' v.ownBlock) (hv : w.ownsRow base T2 k v n xs) (hT : 88 ≠ T2) (h : RB w g s) : RB w' g s :=
  grown_kt hg hv hT _ _ _ h
theorem grown_below {w w' : World} {base : Nat} {T2 : TypeId} {k : Nat} {v : Value} {n : Nat} {xs : List Value} (hg : w.grownBy w' v.ownBlock) (hv : w.ownsRow base T2 k v n xs) (hB : base ≤ w.heap.size) : Below base w w' :=
  (Below.refl base w).grown hg hB fun i hi => (own_block hv hi).1
/-- A row of numbers of one's own. -/
def cellsI (l : List Nat) : List Value := l.map fun x => .int .i64 (x : Nat)
def RowI (w : World) (base : Nat) (v : Value) (l : List Nat) : Prop := w.ownsRow base 3 1 v l.length (cellsI l)
def RowW (w : World) (base : Nat) (v : Value) (l : List ByteArray) : Prop := w.ownsRow base 9 1 v l.length (cellsW l)
def RowM (w : World) (base : Nat) (v : Value) (l : List Mg) : Prop := w.ownsRow base 75 3 v l.length (cellsM l)
def RowS (w : World) (base : Nat) (v : Value) (l : List Sp) : Prop := w.ownsRow base 78 2 v l.length (cellsS l)
theorem RowI.nil (w : World) (base : Nat) : RowI w base (.slice none 0 0) [] := World.ownsRow_nil w base _ 1
theorem RowW.nil (w : World) (base : Nat) : RowW w base (.slice none 0 0) [] := World.ownsRow_nil w base _ 1
theorem RowM.nil (w : World) (base : Nat) : RowM w base (.slice none 0 0) [] := World.ownsRow_nil w base _ 3
theorem RowS.nil (w : World) (base : Nat) : RowS w base (.slice none 0 0) [] := World.ownsRow_nil w base _ 2
theorem RowI.kt {w w' : World} {base : Nat} {v : Value} {l : List Nat} (h : RowI w base v l) (hk : KT 3 w w') : RowI w' base v l := own_kt (T := 3) (k := 1) (xs := cellsI l) h hk
theorem RowW.kt {w w' : World} {base : Nat} {v : Value} {l : List ByteArray} (h : RowW w base v l) (hk : KT 9 w w') : RowW w' base v l := own_kt (T := 9) (k := 1) (xs := cellsW l) h hk
theorem RowM.kt {w w' : World} {base : Nat} {v : Value} {l : List Mg} (h : RowM w base v l) (hk : KT 75 w w') : RowM w' base v l := own_kt (T := 75) (k := 3) (xs := cellsM l) h hk
theorem RowS.kt {w w' : World} {base : Nat} {v : Value} {l : List Sp} (h : RowS w base v l) (hk : KT 78 w w') : RowS w' base v l := own_kt (T := 78) (k := 2) (xs := cellsS l) h hk
theorem infoI6 : (Tryz.prog.info? 3).map (fun i => (i.zero, i.size, i.bytes)) = some (some (.int .i64 0), 1, 8) := by kernel_rfl
theorem infoS6 : (Tryz.prog.info? 78).map (fun i => (i.zero, i.size, i.bytes)) = some (some (.agg #[.int .i32 0, .int .i32 0]), 2, 8) := by kernel_rfl
theorem app_int (W : World) (base : Nat) (v : Value) (l : List Nat) (x b cap : Nat) (hown : RowI W base v l) (hx : W.heap[b]? = some (.cells #[.int .i64 (x : Nat)] 3 (0, 0))) (hb : base ≤ W.heap.size) (hsz : l.length ≤ 4194304) :
    ∃ v' w', (Builtin.append_ #[52, 52] 52 #[v, .slice (some ⟨b, 0, none⟩) 1 cap]).run Tryz.prog W = .ok v' w' ∧ RowI w' base v' (l ++ [x]) ∧ W.grownBy w' v.ownBlock := by
  obtain ⟨i0, hi, hz0, hz1, hz2⟩ := info_parts infoI6
  obtain ⟨v', w', h1, h2, h3, _⟩ := run_append_own (P := Tryz.prog) W base 52 52 3 i0 _ 1 8 Tryz.underlying52 hi hz0 hz1 hz2 (by simp [Value.cells]) (by decide) v l.length (cellsI l) hown ⟨b, 0, none⟩ 1 cap [.int .i64 (x : Nat)] rfl (fun j u hu => by
      rw [cell_add, Nat.zero_add, cell_of_block hx]
      simpa using hu) (by simp [Value.oneCell']) (by unfold maxLen; omega) (by omega) hb
  refine ⟨v', w', h1, ?_, h3⟩
  unfold RowI
  rw [List.length_append, show cellsI (l ++ [x]) = cellsI l ++ [.int .i64 (x : Nat)] by simp [cellsI]]
  exact h2
theorem app_word (W : World) (base : Nat) (v : Value) (l : List ByteArray) (x : ByteArray) (b cap : Nat) (hown : RowW W base v l) (hx : W.heap[b]? = some (.cells #[.string x] 9 (0, 0))) (hb : base ≤ W.heap.size) (hsz : l.length ≤ 4194304) :
    ∃ v' w', (Builtin.append_ #[22, 22] 22 #[v, .slice (some ⟨b, 0, none⟩) 1 cap]).run Tryz.prog W = .ok v' w' ∧ RowW w' base v' (l ++ [x]) ∧ W.grownBy w' v.ownBlock := by
  obtain ⟨i0, hi, hz0, hz1, hz2⟩ := info_parts infoW
  obtain ⟨v', w', h1, h2, h3, _⟩ := run_append_own (P := Tryz.prog) W base 22 22 9 i0 _ 1 16 Tryz.underlying22 hi hz0 hz1 hz2 (by simp [Value.cells]) (by decide) v l.length (cellsW l) hown ⟨b, 0, none⟩ 1 cap [.string x] rfl (fun j u hu => by
      rw [cell_add, Nat.zero_add, cell_of_block hx]
      simpa using hu) (by simp [Value.oneCell']) (by unfold maxLen; omega) (by omega) hb
  refine ⟨v', w', h1, ?_, h3⟩
  unfold RowW
  rw [List.length_append, show cellsW (l ++ [x]) = cellsW l ++ [.string x] by simp [cellsW]]
  exact h2
theorem app_merge (W : World) (base : Nat) (v : Value) (l : List Mg) (x : Mg) (b cap : Nat) (hown : RowM W base v l) (hx : W.heap[b]? = some (.cells #[.int .i64 x.l, .int .i64 x.r, .int .i64 x.i] 75 (0, 0))) (hb : base ≤ W.heap.size) (hsz : l.length ≤ 4194304) :
    ∃ v' w', (Builtin.append_ #[23, 23] 23 #[v, .slice (some ⟨b, 0, none⟩) 1 cap]).run Tryz.prog W = .ok v' w' ∧ RowM w' base v' (l ++ [x]) ∧ W.grownBy w' v.ownBlock := by
  obtain ⟨i0, hi, hz0, hz1, hz2⟩ := info_parts infoM
  obtain ⟨v', w', h1, h2, h3, _⟩ := run_append_own (P := Tryz.prog) W base 23 23 75 i0 _ 3 24 Tryz.underlying23 hi hz0 hz1 hz2 (by simp [Value.cells]) (by decide) v l.length (cellsM l) hown ⟨b, 0, none⟩ 1 cap [.int .i64 x.l, .int .i64 x.r, .int .i64 x.i] rfl (fun j u hu => by
      rw [cell_add, Nat.zero_add, cell_of_block hx]
      simpa using hu) (by simp [Value.oneCell']) (by unfold maxLen; omega) (by omega) hb
  refine ⟨v', w', h1, ?_, h3⟩
  unfold RowM
  rw [List.length_append, show cellsM (l ++ [x]) = cellsM l ++ [.int .i64 x.l, .int .i64 x.r, .int .i64 x.i] by simp [cellsM]]
  exact h2
theorem app_span (W : World) (base : Nat) (v : Value) (l : List Sp) (x : Sp) (b cap : Nat) (hown : RowS W base v l) (hx : W.heap[b]? = some (.cells #[.int .i32 x.lo, .int .i32 x.hi] 78 (0, 0))) (hb : base ≤ W.heap.size) (hsz : l.length ≤ 4194304) :
    ∃ v' w', (Builtin.append_ #[24, 24] 24 #[v, .slice (some ⟨b, 0, none⟩) 1 cap]).run Tryz.prog W = .ok v' w' ∧ RowS w' base v' (l ++ [x]) ∧ W.grownBy w' v.ownBlock := by
  obtain ⟨i0, hi, hz0, hz1, hz2⟩ := info_parts infoS6
  obtain ⟨v', w', h1, h2, h3, _⟩ := run_append_own (P := Tryz.prog) W base 24 24 78 i0 _ 2 8 Tryz.underlying24 hi hz0 hz1 hz2 (by simp [Value.cells]) (by decide) v l.length (cellsS l) hown ⟨b, 0, none⟩ 1 cap [.int .i32 x.lo, .int .i32 x.hi] rfl (fun j u hu => by
      rw [cell_add, Nat.zero_add, cell_of_block hx]
      simpa using hu) (by simp [Value.oneCell']) (by unfold maxLen; omega) (by omega) hb
  refine ⟨v', w', h1, ?_, h3⟩
  unfold RowS
  rw [List.length_append, show cellsS (l ++ [x]) = cellsS l ++ [.int .i32 x.lo, .int .i32 x.hi] by simp [cellsS]]
  exact h2
theorem own_form {w : World} {base : Nat} {T : TypeId} {k : Nat} {v : Value} {n : Nat} {xs : List Value} (h : w.ownsRow base T k v n xs) (hn : 0 < n) : ∃ g cap, v = .slice (some ⟨g, 0, none⟩) n cap := by
  rcases h.2 with ⟨_, h0⟩ | ⟨g, cap, cur, hv, _⟩
  · omega
  · exact ⟨g, cap, hv⟩
/-- A variable that holds the reader. -/
def BoxR (w : World) (b g : Nat) : Prop := w.heap[b]? = some (.cells #[.pointer (some ⟨g, 0, none⟩)] 121 (0, 0))
theorem BoxR.cell {w : World} {b g : Nat} (h : BoxR w b g) : w.cell? ⟨b, 0, none⟩ = some (.pointer (some ⟨g, 0, none⟩)) := (cell_of_block h 0).trans rfl
theorem BoxR.kt {w w' : World} {b g : Nat} (h : BoxR w b g) (hk : KT 121 w w') : BoxR w' b g := hk _ _ _ h
theorem RB.kt {w w' : World} {g : Nat} {s : RS} (h : RB w g s) (hk : KT 88 w w') : RB w' g s := hk _ _ _ h
theorem Rf.kt {w w' : World} {N : Nat} {e : Er} (h : Rf w N e) (hk : KT 85 w w') : Rf w' N e := hk _ _ _ h
theorem Rx.kt {w w' : World} {g : Nat} {s : RS} {x : Except Er Nat} (h : Rx w g s x) (h1 : KT 88 w w') (h2 : KT 85 w w') : Rx w' g s x := by
  cases x with
  | ok q => exact RB.kt h h1
  | error e => obtain ⟨p, N, k1, k3, k4⟩ := h; exact ⟨p, N, k1.kt h1, k3, k4.kt h2⟩
end Go.Proofs.YtplmmamebfpcjaaGreatDoor
end
section
/- tesseraref5.words: its contract. -/
namespace Go.Proofs.YtplmmamebfpcjaaGreatDoor
open Go.RowKit Go.Sort Go.Joins
/-- A refusal of the list li. -/
def fbV (li : Nat) (p : Nat × Nat) : Value := .agg #[.int .i64 (p.1 : Nat), .int .i64 ((if p.1 = 0 then 0 else li : Nat) : Int), .int .i64 (p.2 : Nat)]
theorem strEq_dec (a b : ByteArray) : (a.toList == b.toList) = decide (a = b) := by
  rw [ByteArray.toList_eq, ByteArray.toList_eq, Bool.eq_iff_iff, decide_eq_true_iff]
  constructor
  · intro h
    have h : a.data.toList = b.data.toList := by simpa using h
    cases a; cases b
    simp at h
    rw [h]
  · rintro rfl
    simp
theorem badW_size {ws : List ByteArray} {k : Nat} {x : ByteArray} (hx : ws[k]? = some x) (h : x.size < 2 ∨ 256 < x.size) : badW ws k = 21 := by
  unfold badW; rw [hx]; simp only; rw [if_pos h]
theorem badW_twice {ws : List ByteArray} {k : Nat} {x : ByteArray} (hx : ws[k]? = some x) (h : ¬ (x.size < 2 ∨ 256 < x.size)) (ht : (ws.take k).any (fun v => decide (v = x)) = true) : badW ws k = 22 := by
  unfold badW; rw [hx]; simp only; rw [if_neg h, if_pos ht]
theorem badW_ok {ws : List ByteArray} {k : Nat} {x : ByteArray} (hx : ws[k]? = some x) (h : ¬ (x.size < 2 ∨ 256 < x.size)) (ht : (ws.take k).any (fun v => decide (v = x)) = false) : badW ws k = 0 := by
  unfold badW; rw [hx]; simp only; rw [if_neg h, if_neg (by rw [ht]; simp)]
theorem any_take_snoc {α : Type} {l : List α} {k : Nat} {x : α} (h : l[k]? = some x) (p : α → Bool) : (l.take (k + 1)).any p = ((l.take k).any p || p x) := by
  rw [List.take_add_one, h]; simp
theorem any_take_hit {α : Type} {l : List α} {k n : Nat} {x : α} (h : l[k]? = some x) (hk : k < n) (p : α → Bool) (hp : p x = true) : (l.take n).any p = true := by
  rw [List.any_eq_true]
  exact ⟨x, List.mem_iff_getElem?.2 ⟨k, by rw [List.getElem?_take_of_lt hk]; exact h⟩, hp⟩
set_option maxRecDepth 100000 in
set_option maxHeartbeats 4000000 in
theorem refWords_any (aw am a b c : Option Addr) (cw nm cm na ca nb cb nc cc : Nat) (ws : List ByteArray) (w : World) (hn : ws.length ≤ 4611686018427387904) (hW : WSP w aw ws) :
    Calls Tryz.prog 59 #[.agg #[.slice aw ws.length cw, .slice am nm cm, .slice a na ca, .slice b nb cb, .slice c nc cc]] w fun e w' => e = .returned (fbV 4 (firstBad (badW ws) ws.length)) ∧ Below w.heap.size w w' := by
  have hD := DBox.new w (.slice aw ws.length cw) (.slice am nm cm) (.slice a na ca) (.slice b nb cb) (.slice c nc cc)
  have hb := box_below w (.cells #[.slice aw ws.length cw, .slice am nm cm, .slice a na ca, .slice b nb cb, .slice c nc cc] 26)
  have hY1 := heap_alloc_new (w.alloc (.cells #[.slice aw ws.length cw, .slice am nm cm, .slice a na ca, .slice b nb cb, .slice c nc cc] 26)) (.cells #[.int .i64 0, .int .i64 0, .int .i64 0] 69)
  have hb2 := hb.alloc hb.size (.cells #[.int .i64 0, .int .i64 0, .int .i64 0] 69)
  have hD2 := hD.below (box_below (w.alloc (.cells #[.slice aw ws.length cw, .slice am nm cm, .slice a na ca, .slice b nb cb, .slice c nc cc] 26)) (.cells #[.int .i64 0, .int .i64 0, .int .i64 0] 69)) hD.lt
  have hW' := hW.below hb2
  have hsz : ((w.alloc (.cells #[.slice aw ws.length cw, .slice am nm cm, .slice a na ca, .slice b nb cb, .slice c nc cc] 26)).alloc (.cells #[.int .i64 0, .int .i64 0, .int .i64 0] 69)).heap.size = w.heap.size + 1 + 1 := by simp
  rw [show (w.alloc (.cells #[.slice aw ws.length cw, .slice am nm cm, .slice a na ca, .slice b nb cb, .slice c nc cc] 26)).heap.size = w.heap.size + 1 by simp] at hY1
  obtain ⟨E, hE⟩ : ∃ E, E = firstBad (badW ws) ws.length := ⟨_, rfl⟩
  have HE : Hid (E = firstBad (badW ws) ws.length) := hE
  rw [← hE]
  clear hD hb hW hE
  go_enter Tryz.func59, Tryz.ntmps59
  go_wp2_with fail
  obtain ⟨Y, hY⟩ : ∃ Y, Y = (w.alloc (.cells #[.slice aw ws.length cw, .slice am nm cm, .slice a na ca, .slice b nb cb, .slice c nc cc] 26)).alloc (.cells #[.int .i64 0, .int .i64 0, .int .i64 0] 69) := ⟨_, rfl⟩
  rw [← hY] at hb2 hD2 hW' hY1 hsz ⊢
  clear hY
  obtain ⟨z, hz⟩ : ∃ z, z = w.heap.size := ⟨_, rfl⟩
  have HZ : Hid (z = w.heap.size) := hz
  rw [← hz] at hD2 hY1 hsz ⊢
  clear hz
  go_loopw [3] (fun i wr => ∃ k : Nat, k ≤ ws.length ∧ i = .int .i64 k ∧ (∀ j, j < k → badW ws j = 0) ∧ Below Y.heap.size Y wr) (fun i _ => ws.length - (intOf i).toNat)
  case atStart => exact ⟨0, Nat.zero_le _, rfl, fun j hj => absurd hj (Nat.not_lt_zero _), Below.refl _ _⟩
  case round =>
    obtain ⟨k, hk, rfl, hok, hbr⟩ := hrel
    have x0 := (hD2.below hbr (by omega)).c0
    have HOK : Hid (∀ j, j < k → badW ws j = 0) := hok
    clear hok
    by_cases hlt : k < ws.length
    · obtain ⟨x, hx⟩ : ∃ x, ws[k]? = some x := ⟨_, List.getElem?_eq_getElem hlt⟩
      have g0 : decide ((k : Int) < (ws.length : Int)) = true := decide_eq_true (by omega)
      have HX : Hid (ws[k]? = some x) := hx
      have hWr := hW'.below hbr
      obtain ⟨bw, off, rfl, hc⟩ := hWr.at_ hx
      clear hx
      by_cases hs : x.size < 2 ∨ 256 < x.size
      · have hbad : firstBad (badW ws) ws.length = (21, k) := by
          have := badW_size HX.out hs
          rw [firstBad_some hlt HOK.out (by rw [this]; decide), this]
        have HB : Hid (firstBad (badW ws) ws.length = (21, k)) := hbad
        have hp : (∃ _ : decide ((x.size : Int) < 2) = false, decide ((256 : Int) < (x.size : Int)) = true) ∨ decide ((x.size : Int) < 2) = true := by
          by_cases h2 : x.size < 2
          · exact .inr (decide_eq_true (by omega))
          · exact .inl ⟨decide_eq_false (by omega), decide_eq_true (by omega)⟩
        have HW1 := (hbr.block (z + 1) (by omega)).trans hY1
        have hB1 := hb2.trans (hbr.mono hb2.size)
        have x0 := cell_of_block HW1 (i := 0)
        have x1 := cell_of_block HW1 (i := 1)
        have x2 := cell_of_block HW1 (i := 2)
        have f0 := fun j => unfrozen_of_block HW1 j
        clear hW' hWr hY1 hbad hs
        rcases hp with ⟨g1, g2⟩ | g1
        all_goals
          go_wp2_with fail
          have hfin := wr_set HW1 (u0 := .int .i64 21) (u1 := .int .i64 4) (u2 := .int .i64 (k : Int))
          have hBf := wr_below hB1 (g := z + 1) (u0 := .int .i64 21) (u1 := .int .i64 4) (u2 := .int .i64 (k : Int)) (by rw [HZ.out]; omega)
          obtain ⟨Wf, hWf⟩ : ∃ Wf, Wf = (((wr.setCell ⟨z + 1, 0, none⟩ (.int .i64 21)).setCell ⟨z + 1, 1, none⟩ (.int .i64 4)).setCell ⟨z + 1, 2, none⟩ (.int .i64 (k : Int))) := ⟨_, rfl⟩
          rw [← hWf] at hfin hBf ⊢
          have y0 := cell_of_block hfin (i := 0)
          have y1 := cell_of_block hfin (i := 1)
          have y2 := cell_of_block hfin (i := 2)
          exact bodyPost_ret (v := .agg #[.int .i64 21, .int .i64 4, .int .i64 (k : Int)]) (by simp [results, Tryz.results59, go_sem, y0, y1, y2]) rfl ⟨by rw [HE.out, HB.out]; rfl, hBf⟩

      · have g1 : decide ((x.size : Int) < 2) = false := decide_eq_false (by omega)
        have g2 : decide ((256 : Int) < (x.size : Int)) = false := decide_eq_false (by omega)
        have HS : Hid (¬ (x.size < 2 ∨ 256 < x.size)) := hs
        clear hs
        go_wp2_with fail
        obtain ⟨V, hV⟩ : ∃ V, V = wr := ⟨_, rfl⟩
        obtain rfl := hV.symm
        clear x0 hc hV
        go_loopw [4] (fun i wr => ∃ j : Nat, j ≤ k ∧ i = .int .i64 j ∧ (ws.take j).any (fun v => decide (v = x)) = false ∧ Below Y.heap.size Y wr) (fun i _ => k - (intOf i).toNat)
        case atStart => exact ⟨0, Nat.zero_le _, rfl, by simp, hbr⟩
        case round =>
          clear hbr hWr
          obtain ⟨j, hj, rfl, hno, hbr⟩ := hrel
          have x0 := (hD2.below hbr (by omega)).c0
          have HNO : Hid ((ws.take j).any (fun v => decide (v = x)) = false) := hno
          clear hno
          by_cases hjk : j < k
          · obtain ⟨y, hy⟩ : ∃ y, ws[j]? = some y := ⟨_, List.getElem?_eq_getElem (by omega)⟩
            have HY : Hid (ws[j]? = some y) := hy
            have g3 : decide ((j : Int) < (k : Int)) = true := decide_eq_true (by omega)
            have hWr := hW'.below hbr
            obtain ⟨bw', off', he, hc⟩ := hWr.at_ HX.out
            obtain ⟨bw'', off'', he', hc'⟩ := hWr.at_ hy
            cases he
            cases he'
            clear hy
            have hq : (y.toList == x.toList) = decide (y = x) := strEq_dec y x
            obtain ⟨v, hv⟩ : ∃ v, v = decide (y = x) := ⟨_, rfl⟩
            rw [← hv] at hq
            have HV : Hid (v = decide (y = x)) := hv
            clear hv hWr
            go_wp2_with fail
            go_quiet (fail)
            have hbq := below_drewN hbr nq
            obtain ⟨Wq, hWq⟩ : ∃ Wq, Wq = wr.drewN nq := ⟨_, rfl⟩
            rw [← hWq] at hbq ⊢
            clear hWq hbr x0 hc hc' hq
            cases v with
            | true =>
              have hbad : firstBad (badW ws) ws.length = (22, k) := by
                have := badW_twice HX.out HS.out (any_take_hit HY.out hjk _ HV.out.symm)
                rw [firstBad_some hlt HOK.out (by rw [this]; decide), this]
              have HB : Hid (firstBad (badW ws) ws.length = (22, k)) := hbad
              have HW1 := (hbq.block (z + 1) (by omega)).trans hY1
              have hB1 := hb2.trans (hbq.mono hb2.size)
              have x0 := cell_of_block HW1 (i := 0)
              have x1 := cell_of_block HW1 (i := 1)
              have x2 := cell_of_block HW1 (i := 2)
              have f0 := fun j => unfrozen_of_block HW1 j
              clear hW' hY1 hbad
              go_wp2_with fail
              have hfin := wr_set HW1 (u0 := .int .i64 22) (u1 := .int .i64 4) (u2 := .int .i64 (k : Int))
              have hBf := wr_below hB1 (g := z + 1) (u0 := .int .i64 22) (u1 := .int .i64 4) (u2 := .int .i64 (k : Int)) (by rw [HZ.out]; omega)
              obtain ⟨Wf, hWf⟩ : ∃ Wf, Wf = (((Wq.setCell ⟨z + 1, 0, none⟩ (.int .i64 22)).setCell ⟨z + 1, 1, none⟩ (.int .i64 4)).setCell ⟨z + 1, 2, none⟩ (.int .i64 (k : Int))) := ⟨_, rfl⟩
              rw [← hWf] at hfin hBf ⊢
              have y0 := cell_of_block hfin (i := 0)
              have y1 := cell_of_block hfin (i := 1)
              have y2 := cell_of_block hfin (i := 2)
              exact bodyPost_ret (v := .agg #[.int .i64 22, .int .i64 4, .int .i64 (k : Int)]) (by simp [results, Tryz.results59, go_sem, y0, y1, y2]) rfl ⟨by rw [HE.out, HB.out]; rfl, hBf⟩

            | false =>
              go_wp2_with fail
              refine ⟨⟨j + 1, by omega, by go_num, ?_, hbq⟩, by simp only [intOf]; omega⟩
              rw [any_take_snoc HY.out, HNO.out, Bool.false_or]
              exact HV.out.symm
          · have hjk' : j = k := by omega
            subst hjk'
            have hbad := badW_ok HX.out HS.out HNO.out
            have HB : Hid (badW ws j = 0) := hbad
            clear hbad
            go_wp2_with fail
            exact ⟨⟨j + 1, by omega, by go_num, fun i hi => by
              by_cases e : i = j
              · rw [e]; exact HB.out
              · exact HOK.out i (by omega), hbr⟩, by simp only [intOf]; omega⟩
    · have hkn : k = ws.length := by omega
      subst hkn
      have HB : Hid (firstBad (badW ws) ws.length = (0, 0)) := firstBad_none HOK.out
      have HW1 := (hbr.block (z + 1) (by omega)).trans hY1
      have hB1 := hb2.trans (hbr.mono hb2.size)
      have xx0 := cell_of_block HW1 (i := 0)
      have x1 := cell_of_block HW1 (i := 1)
      have x2 := cell_of_block HW1 (i := 2)
      have f0 := fun j => unfrozen_of_block HW1 j
      clear hW' hY1
      go_wp2_with fail
      have hfin := wr_set HW1 (u0 := .int .i64 0) (u1 := .int .i64 0) (u2 := .int .i64 0)
      have hBf := wr_below hB1 (g := z + 1) (u0 := .int .i64 0) (u1 := .int .i64 0) (u2 := .int .i64 0) (by rw [HZ.out]; omega)
      obtain ⟨Wf, hWf⟩ : ∃ Wf, Wf = (((wr.setCell ⟨z + 1, 0, none⟩ (.int .i64 0)).setCell ⟨z + 1, 1, none⟩ (.int .i64 0)).setCell ⟨z + 1, 2, none⟩ (.int .i64 0)) := ⟨_, rfl⟩
      rw [← hWf] at hfin hBf ⊢
      have y0 := cell_of_block hfin (i := 0)
      have y1 := cell_of_block hfin (i := 1)
      have y2 := cell_of_block hfin (i := 2)
      exact bodyPost_ret (v := .agg #[.int .i64 0, .int .i64 0, .int .i64 0]) (by simp [results, Tryz.results59, go_sem, y0, y1, y2]) rfl ⟨by rw [HE.out, HB.out]; rfl, hBf⟩

end Go.Proofs.YtplmmamebfpcjaaGreatDoor
end
