import Derived.Test.YtplmmamebfpcjaaDoorJ18
import Derived.Test.YtplmmamebfpcjaaDoorJ10
import Derived.Deep.QuietTactic
import Derived.BigQuiet
section
/- The reader, stage by stage: what it holds behind each. -/
namespace Go.Proofs.YtplmmamebfpcjaaDoor
open Go.RowKit Go.Sort Go.Joins
set_option linter.unusedVariables false
set_option maxRecDepth 100000
/-- The same bytes. -/
structure Fix (s s' : RS) : Prop where
  a : s'.a = s.a
  n : s'.n = s.n
  c : s'.c = s.c
theorem SameF.fix {s s' : RS} (h : SameF s s') : Fix s s' := ⟨h.a, h.n, h.c⟩
theorem Fix.trans {s t u : RS} (h : Fix s t) (k : Fix t u) : Fix s u := ⟨k.a.trans h.a, k.n.trans h.n, k.c.trans h.c⟩
def Nil (v : Value) : Prop := v = .slice none 0 0
def ErrSt (w : World) (g : Nat) (e : Er) : Prop := ∃ s', RErr w g s' e ∧ ∃ x m k, s'.W = .slice x m k
/-- A stage: what was read, or the refusal. -/
def St {α : Type} (x : Except Er α) (D : World → α → Prop) (g : Nat) (w : World) : Prop :=
  match x with
  | .ok a => D w a
  | .error e => ErrSt w g e
structure Ctx (w0 w : World) (g B : Nat) (s : RS) (l : List UInt8) : Prop where
  n : s.n = l.length
  le : l.length ≤ s.c
  lim : l.length ≤ 4194304
  bs : Oc.BS w0 s.a l
  below : Below w0.heap.size w0 w
  w0g : w0.heap.size ≤ g
  gB : g < B
  B : B ≤ w.heap.size
theorem Ctx.but {w0 w w1 : World} {g B : Nat} {s : RS} {l : List UInt8} (h : Ctx w0 w g B s l) (hb : But g w.heap.size w w1) : Ctx w0 w1 g B s l :=
  ⟨h.n, h.le, h.lim, h.bs, h.below.trans (hb.below (B' := w0.heap.size) h.below.size h.w0g), h.w0g, h.gB, Nat.le_trans h.B hb.size⟩
theorem Ctx.set {w0 w : World} {g B : Nat} {s : RS} {l : List UInt8} (h : Ctx w0 w g B s l) (o : Nat) (v : Value) : Ctx w0 (w.setCell ⟨g, o, none⟩ v) g B s l :=
  h.but ((But.refl _ _ _).setCell o v)
theorem Ctx.fl {w0 w : World} {g B : Nat} {s s' : RS} {l : List UInt8} (h : Ctx w0 w g B s l) (hf : Fix s s') : Fl w s' l :=
  ⟨hf.n.trans h.n, by rw [hf.c]; exact h.le, h.lim, by rw [hf.a]; exact h.bs.below h.below⟩
theorem Ctx.cx {w0 w : World} {g B : Nat} {s s' : RS} {l : List UInt8} (h : Ctx w0 w g B s l) (hf : Fix s s') : ∃ w0 : World, Below w0.heap.size w0 w ∧ Oc.BS w0 s'.a l ∧ w0.heap.size ≤ g := ⟨w0, h.below, by rw [hf.a]; exact h.bs, h.w0g⟩
section
variable (g B : Nat) (s : RS)
def D0 (w : World) (q : Nat) : Prop := ∃ s', Rx w g s' (.ok q) ∧ Fix s s' ∧ Nil s'.W ∧ Nil s'.M ∧ Nil (s'.P 1) ∧ Nil (s'.P 2) ∧ Nil (s'.P 3) ∧ Nil (s'.P 4) ∧ Nil (s'.P 5)
def D1 (w : World) (x : List (ByteArray × Nat) × Nat) : Prop := ∃ s', Rx w g s' (.ok x.2) ∧ Fix s s' ∧ RowW w B s'.W (x.1.map Prod.fst) ∧ RowI w B (s'.P 4) (x.1.map Prod.snd) ∧ Nil s'.M ∧ Nil (s'.P 1) ∧ Nil (s'.P 2) ∧ Nil (s'.P 3) ∧ Nil (s'.P 5)
def D2 (w : World) (x : (List (ByteArray × Nat) × List (Mg × Nat)) × Nat) : Prop := ∃ s', Rx w g s' (.ok x.2) ∧ Fix s s' ∧ (RowW w B s'.W (x.1.1.map Prod.fst) ∧ RowI w B (s'.P 4) (x.1.1.map Prod.snd)) ∧ (RowM w B s'.M (x.1.2.map Prod.fst) ∧ RowI w B (s'.P 5) (x.1.2.map Prod.snd)) ∧ Nil (s'.P 1) ∧ Nil (s'.P 2) ∧ Nil (s'.P 3)
abbrev LL := List (Sp × Nat)
def D3 (w : World) (x : ((List (ByteArray × Nat) × List (Mg × Nat)) × LL) × Nat) : Prop := ∃ s', Rx w g s' (.ok x.2) ∧ Fix s s' ∧ (RowW w B s'.W (x.1.1.1.map Prod.fst) ∧ RowI w B (s'.P 4) (x.1.1.1.map Prod.snd)) ∧ (RowM w B s'.M (x.1.1.2.map Prod.fst) ∧ RowI w B (s'.P 5) (x.1.1.2.map Prod.snd)) ∧ (RowS w B s'.A (x.1.2.map Prod.fst) ∧ RowI w B (s'.P 1) (x.1.2.map Prod.snd)) ∧ Nil (s'.P 2) ∧ Nil (s'.P 3)
def D4 (w : World) (x : (((List (ByteArray × Nat) × List (Mg × Nat)) × LL) × LL) × Nat) : Prop := ∃ s', Rx w g s' (.ok x.2) ∧ Fix s s' ∧ (RowW w B s'.W (x.1.1.1.1.map Prod.fst) ∧ RowI w B (s'.P 4) (x.1.1.1.1.map Prod.snd)) ∧ (RowM w B s'.M (x.1.1.1.2.map Prod.fst) ∧ RowI w B (s'.P 5) (x.1.1.1.2.map Prod.snd)) ∧ (RowS w B s'.A (x.1.1.2.map Prod.fst) ∧ RowI w B (s'.P 1) (x.1.1.2.map Prod.snd)) ∧ (RowS w B s'.B (x.1.2.map Prod.fst) ∧ RowI w B (s'.P 2) (x.1.2.map Prod.snd)) ∧ Nil (s'.P 3)
def D4b (w : World) (x : (((List (ByteArray × Nat) × List (Mg × Nat)) × LL) × LL) × Nat) : Prop := ∃ s', Rx w g s' (.ok x.2) ∧ Fix s s' ∧ (RowW w B s'.W (x.1.1.1.1.map Prod.fst) ∧ RowI w B (s'.P 4) (x.1.1.1.1.map Prod.snd)) ∧ (RowM w B s'.M (x.1.1.1.2.map Prod.fst) ∧ RowI w B (s'.P 5) (x.1.1.1.2.map Prod.snd)) ∧ (RowS w B s'.A (x.1.1.2.map Prod.fst) ∧ RowI w B (s'.P 1) (x.1.1.2.map Prod.snd)) ∧ (RowS w B s'.B (x.1.2.map Prod.fst) ∧ RowI w B (s'.P 2) (x.1.2.map Prod.snd)) ∧ Nil (s'.P 3) ∧ s'.bl = x.2
/-- All that was read lies in the reader. -/
structure AllAt (w : World) (B : Nat) (s' : RS) (r : Raw) : Prop where
  wr : RowW w B s'.W (r.ws.map Prod.fst)
  wp : RowI w B (s'.P 4) (r.ws.map Prod.snd)
  mr : RowM w B s'.M (r.ms.map Prod.fst)
  mp : RowI w B (s'.P 5) (r.ms.map Prod.snd)
  ar : RowS w B s'.A (r.A.map Prod.fst)
  ap : RowI w B (s'.P 1) (r.A.map Prod.snd)
  br : RowS w B s'.B (r.B.map Prod.fst)
  bp : RowI w B (s'.P 2) (r.B.map Prod.snd)
  cr : RowS w B s'.C (r.C.map Prod.fst)
  cp : RowI w B (s'.P 3) (r.C.map Prod.snd)
  bl : s'.bl = r.blank
def D5 (w : World) (x : Raw × Nat) : Prop := ∃ s', Rx w g s' (.ok x.2) ∧ Fix s s' ∧ AllAt w B s' x.1
def D6 (w : World) (r : Raw) : Prop := ∃ s' q, Rx w g s' (.ok q) ∧ AllAt w B s' r
end
theorem rowI_but {w w' : World} {g B : Nat} {v : Value} {l : List Nat} {s : RS} {q : Nat} (h : RowI w B v l) (hb : But g w.heap.size w w') (hr : Rx w g s (.ok q)) : RowI w' B v l := h.kt (hb.kt (s := { s with p := q, no := none }) hr (by decide))
theorem rowW_but {w w' : World} {g B : Nat} {v : Value} {l : List ByteArray} {s : RS} {q : Nat} (h : RowW w B v l) (hb : But g w.heap.size w w') (hr : Rx w g s (.ok q)) : RowW w' B v l := h.kt (hb.kt (s := { s with p := q, no := none }) hr (by decide))
theorem rowM_but {w w' : World} {g B : Nat} {v : Value} {l : List Mg} {s : RS} {q : Nat} (h : RowM w B v l) (hb : But g w.heap.size w w') (hr : Rx w g s (.ok q)) : RowM w' B v l := h.kt (hb.kt (s := { s with p := q, no := none }) hr (by decide))
theorem rowS_but {w w' : World} {g B : Nat} {v : Value} {l : List Sp} {s : RS} {q : Nat} (h : RowS w B v l) (hb : But g w.heap.size w w') (hr : Rx w g s (.ok q)) : RowS w' B v l := h.kt (hb.kt (s := { s with p := q, no := none }) hr (by decide))
theorem own_low {w : World} {base B : Nat} {T : TypeId} {k : Nat} {v : Value} {n : Nat} {xs : List Value} (h : w.ownsRow base T k v n xs) (hB : B ≤ base) : w.ownsRow B T k v n xs := by
  refine ⟨h.1, ?_⟩
  rcases h.2 with h0 | ⟨g, cap, cur, hv, hg, r⟩
  · exact .inl h0
  · exact .inr ⟨g, cap, cur, hv, Nat.le_trans hB hg, r⟩
theorem RowI.low {w : World} {base B : Nat} {v : Value} {l : List Nat} (h : RowI w base v l) (hB : B ≤ base) : RowI w B v l := own_low (T := 3) (k := 1) (xs := cellsI l) h hB
theorem RowW.low {w : World} {base B : Nat} {v : Value} {l : List ByteArray} (h : RowW w base v l) (hB : B ≤ base) : RowW w B v l := own_low (T := 9) (k := 1) (xs := cellsW l) h hB
theorem RowM.low {w : World} {base B : Nat} {v : Value} {l : List Mg} (h : RowM w base v l) (hB : B ≤ base) : RowM w B v l := own_low (T := 50) (k := 3) (xs := cellsM l) h hB
theorem RowS.low {w : World} {base B : Nat} {v : Value} {l : List Sp} (h : RowS w base v l) (hB : B ≤ base) : RowS w B v l := own_low (T := 40) (k := 2) (xs := cellsS l) h hB
section
variable {w0 w : World} {g B : Nat} {s : RS} {l : List UInt8}
theorem words_st {x : Except Er Nat} (hc : Ctx w0 w g B s l) (h : St x (D0 g s) g w) :
    Calls Tryd.prog 26 #[.pointer (some ⟨g, 0, none⟩)] w fun e w' => e = .returned (.tuple #[]) ∧ But g w.heap.size w w' ∧
      St (match x with | .error e => .error e | .ok p => andP (numP l 0 4096 4 p) fun n q => manyP (wordP l) n q) (D1 g B s) g w' := by
  cases x with
  | error r =>
    obtain ⟨s', h1, h2⟩ := h
    refine (words_bad g s' r w h1).mono ?_
    rintro e w' ⟨h3, h4, h5⟩
    exact ⟨h3, h5, s', h4, h2⟩
  | ok p =>
    obtain ⟨s', h1, hf, n1, n2, n3, n4, n5, n6, n7⟩ := h
    refine (words_ok g p s' l w h1 n6 n1 (hc.fl hf) (hc.cx hf)).mono ?_
    rintro e w' ⟨h3, h4, h5⟩
    refine ⟨h3, h4, ?_⟩
    simp only
    cases hx : (andP (numP l 0 4096 4 p) fun n q => manyP (wordP l) n q) with
    | error r => rw [hx] at h5; obtain ⟨s2, k1, k2⟩ := h5; exact ⟨s2, k1, k2.W⟩
    | ok a =>
      rw [hx] at h5
      obtain ⟨v, pv, k1, k2, k3⟩ := h5
      exact ⟨_, k1, ⟨hf.a, hf.n, hf.c⟩, k2.low hc.B, k3.low hc.B, n2, n3, n4, n5, n7⟩
theorem merges_st {x : Except Er (List (ByteArray × Nat) × Nat)} (hc : Ctx w0 w g B s l) (h : St x (D1 g B s) g w) (hn : ∀ a, x = .ok a → a.1.length ≤ 4096) :
    Calls Tryd.prog 27 #[.pointer (some ⟨g, 0, none⟩)] w fun e w' => e = .returned (.tuple #[]) ∧ But g w.heap.size w w' ∧
      St (match x with | .error e => .error e | .ok a => andP (manyP (mgP l) a.1.length a.2) fun m q => .ok ((a.1, m), q)) (D2 g B s) g w' := by
  cases x with
  | error r =>
    obtain ⟨s', h1, x, m, k, h2⟩ := h
    refine (merges_bad g m k x s' r w h1 h2).mono ?_
    rintro e w' ⟨h3, h4, h5⟩
    exact ⟨h3, h5, s', h4, x, m, k, h2⟩
  | ok a =>
    obtain ⟨s', h1, hf, r1, r2, n2, n3, n4, n5, n7⟩ := h
    obtain ⟨xa, xc, hv⟩ := own_slice (T := 9) (k := 1) (n := (a.1.map Prod.fst).length) (xs := cellsW (a.1.map Prod.fst)) r1
    rw [List.length_map] at hv
    refine (merges_ok g a.2 a.1.length xc xa s' l w (hn a rfl) h1 hv n7 n2 (hc.fl hf) (hc.cx hf)).mono ?_
    rintro e w' ⟨h3, h4, h5⟩
    refine ⟨h3, h4, ?_⟩
    simp only
    cases hx : manyP (mgP l) a.1.length a.2 with
    | error r => rw [hx] at h5; obtain ⟨s2, k1, k2⟩ := h5; exact ⟨s2, k1, k2.W⟩
    | ok b =>
      rw [hx] at h5
      obtain ⟨v, pv, k1, k2, k3⟩ := h5
      exact ⟨_, k1, ⟨hf.a, hf.n, hf.c⟩, ⟨rowW_but r1 h4 h1, rowI_but r2 h4 h1⟩, ⟨k2.low hc.B, k3.low hc.B⟩, n3, n4, n5⟩
end
end Go.Proofs.YtplmmamebfpcjaaDoor
end
section
/- reader.all: its contract. -/
namespace Go.Proofs.YtplmmamebfpcjaaDoor
open Go.RowKit Go.Sort Go.Joins
set_option linter.unusedVariables false
set_option maxRecDepth 100000
theorem rxset_kt {w : World} {g q : Nat} {s : RS} (h : Rx w g s (.ok q)) {T : TypeId} (hT : T ≠ 61) (o : Nat) (v : Value) : KT T w (w.setCell ⟨g, o, none⟩ v) := Rx.setkt h hT o v
theorem RErr.set5 {w : World} {g : Nat} {s : RS} {e : Er} (h : RErr w g s e) (v : Value) : RErr (w.setCell ⟨g, 5, none⟩ v) g { s with A := v } e := by
  obtain ⟨p, N, k1, k3, k4⟩ := h
  exact ⟨p, N, k1.setA v, k3, (Below.heap_setCell _ _ _ N (by show N ≠ g; omega)).trans k4⟩
theorem Rx.set5 {w : World} {g q : Nat} {s : RS} (h : Rx w g s (.ok q)) (v : Value) : Rx (w.setCell ⟨g, 5, none⟩ v) g { s with A := v } (.ok q) := RB.setA h v
theorem RErr.set6 {w : World} {g : Nat} {s : RS} {e : Er} (h : RErr w g s e) (v : Value) : RErr (w.setCell ⟨g, 6, none⟩ v) g { s with B := v } e := by
  obtain ⟨p, N, k1, k3, k4⟩ := h
  exact ⟨p, N, k1.setB v, k3, (Below.heap_setCell _ _ _ N (by show N ≠ g; omega)).trans k4⟩
theorem Rx.set6 {w : World} {g q : Nat} {s : RS} (h : Rx w g s (.ok q)) (v : Value) : Rx (w.setCell ⟨g, 6, none⟩ v) g { s with B := v } (.ok q) := RB.setB h v
theorem RErr.set7 {w : World} {g : Nat} {s : RS} {e : Er} (h : RErr w g s e) (v : Value) : RErr (w.setCell ⟨g, 7, none⟩ v) g { s with C := v } e := by
  obtain ⟨p, N, k1, k3, k4⟩ := h
  exact ⟨p, N, k1.setC v, k3, (Below.heap_setCell _ _ _ N (by show N ≠ g; omega)).trans k4⟩
theorem Rx.set7 {w : World} {g q : Nat} {s : RS} (h : Rx w g s (.ok q)) (v : Value) : Rx (w.setCell ⟨g, 7, none⟩ v) g { s with C := v } (.ok q) := RB.setC h v
theorem RErr.set14 {w : World} {g : Nat} {s : RS} {e : Er} (h : RErr w g s e) (q : Nat) : RErr (w.setCell ⟨g, 14, none⟩ (.int .i64 (q : Nat))) g { s with bl := q } e := by
  obtain ⟨p, N, k1, k3, k4⟩ := h
  exact ⟨p, N, k1.setBl q, k3, (Below.heap_setCell _ _ _ N (by show N ≠ g; omega)).trans k4⟩
theorem Rx.setb {w : World} {g q : Nat} {s : RS} (h : Rx w g s (.ok q)) (k : Nat) : Rx (w.setCell ⟨g, 14, none⟩ (.int .i64 (k : Nat))) g { s with bl := k } (.ok q) := RB.setBl h k
section
variable {w0 w : World} {g B : Nat} {s : RS} {l : List UInt8}
theorem magic_st (hc : Ctx w0 w g B s l) {p : Nat} (h : Rx w g s (.ok p)) (n1 : Nil s.W) (n2 : Nil s.M) (n3 : Nil (s.P 1)) (n4 : Nil (s.P 2)) (n5 : Nil (s.P 3)) (n6 : Nil (s.P 4)) (n7 : Nil (s.P 5)) :
    Calls Tryd.prog 25 #[.pointer (some ⟨g, 0, none⟩)] w fun e w' => e = .returned (.tuple #[]) ∧ But g w.heap.size w w' ∧
      St (match magicP l with | some i => .error (i, 11) | none => .ok 4) (D0 g s) g w' := by
  refine (magic_any g p s l w h (hc.fl ⟨rfl, rfl, rfl⟩)).mono ?_
  rintro e w' ⟨h1, h2, h3⟩
  refine ⟨h1, h2, ?_⟩
  unfold MagicQ at h3
  cases hm : magicP l with
  | some i => rw [hm] at h3; exact ⟨s, h3, _, _, _, n1⟩
  | none => rw [hm] at h3; exact ⟨s, h3, ⟨rfl, rfl, rfl⟩, n1, n2, n3, n4, n5, n6, n7⟩
theorem spans1_st {x : Except Er ((List (ByteArray × Nat) × List (Mg × Nat)) × Nat)} (hc : Ctx w0 w g B s l) (h : St x (D2 g B s) g w) :
    Calls Tryd.prog 28 #[.pointer (some ⟨g, 0, none⟩), .int .i64 1] w fun e w' => But g w.heap.size w w' ∧ ∃ xa n c, e = .returned (.slice xa n c) ∧ (∃ s2, RB w' g s2) ∧
      St (match x with | .error e => .error e | .ok a => andP (listP l a.2) fun L q => .ok ((a.1, L), q)) (D3 g B s) g (w'.setCell ⟨g, 5, none⟩ (.slice xa n c)) := by
  cases x with
  | error r =>
    obtain ⟨s', h1, h2⟩ := h
    refine (spans_bad g 1 s' r w h1).mono ?_
    rintro e w' ⟨rfl, h4, h5⟩
    refine ⟨h5, none, 0, 0, rfl, ?_, _, h4.set5 _, h2⟩
    obtain ⟨p, N, k1, _⟩ := h4
    exact ⟨_, k1⟩
  | ok a =>
    obtain ⟨s', h1, hf, ⟨ra, ra2⟩, ⟨rb, rb2⟩, n1, n2, n3⟩ := h
    have hWs : ∃ x m k, s'.W = .slice x m k := by
      obtain ⟨xa, xc, hv⟩ := own_slice (T := 9) (k := 1) (n := (a.1.1.map Prod.fst).length) (xs := cellsW (a.1.1.map Prod.fst)) ra
      exact ⟨_, _, _, hv⟩
    refine (spans1_ok g a.2 s' l w h1 n1 hWs (hc.fl hf) (hc.cx hf)).mono ?_
    rintro e w' ⟨hb, h5⟩
    refine ⟨hb, ?_⟩
    simp only
    cases hx : listP l a.2 with
    | error r =>
      rw [hx] at h5
      obtain ⟨s2, v, l1, rfl, k1, k2, k3⟩ := h5
      obtain ⟨xa, xc, rfl⟩ := own_slice (T := 40) (k := 2) (n := l1.length) (xs := cellsS l1) k3
      refine ⟨_, _, _, rfl, ?_, _, k1.set5 _, k2.W⟩
      obtain ⟨p, N, q1, _⟩ := k1
      exact ⟨_, q1⟩
    | ok b =>
      rw [hx] at h5
      obtain ⟨v, pv, rfl, k2, k3, k4⟩ := h5
      obtain ⟨xa, xc, rfl⟩ := own_slice (T := 40) (k := 2) (n := (b.1.map Prod.fst).length) (xs := cellsS (b.1.map Prod.fst)) k3
      have kx := fun T (hT : T ≠ 61) => rxset_kt k2 hT 5 (.slice xa (b.1.map Prod.fst).length xc)
      refine ⟨_, _, _, rfl, ⟨_, k2⟩, ?_⟩
      exact ⟨_, k2.set5 _, ⟨hf.a, hf.n, hf.c⟩, ⟨((rowW_but ra hb h1).kt (kx _ (by decide))), ((rowI_but ra2 hb h1).kt (kx _ (by decide)))⟩, ⟨((rowM_but rb hb h1).kt (kx _ (by decide))), ((rowI_but rb2 hb h1).kt (kx _ (by decide)))⟩, ⟨(k3.low hc.B).kt (kx _ (by decide)), (k4.low hc.B).kt (kx _ (by decide))⟩, n2, n3⟩
theorem spans2_st {x : Except Er (((List (ByteArray × Nat) × List (Mg × Nat)) × LL) × Nat)} (hc : Ctx w0 w g B s l) (h : St x (D3 g B s) g w) :
    Calls Tryd.prog 28 #[.pointer (some ⟨g, 0, none⟩), .int .i64 2] w fun e w' => But g w.heap.size w w' ∧ ∃ xa n c, e = .returned (.slice xa n c) ∧ (∃ s2, RB w' g s2) ∧
      St (match x with | .error e => .error e | .ok a => andP (listP l a.2) fun L q => .ok ((a.1, L), q)) (D4 g B s) g (w'.setCell ⟨g, 6, none⟩ (.slice xa n c)) := by
  cases x with
  | error r =>
    obtain ⟨s', h1, h2⟩ := h
    refine (spans_bad g 2 s' r w h1).mono ?_
    rintro e w' ⟨rfl, h4, h5⟩
    refine ⟨h5, none, 0, 0, rfl, ?_, _, h4.set6 _, h2⟩
    obtain ⟨p, N, k1, _⟩ := h4
    exact ⟨_, k1⟩
  | ok a =>
    obtain ⟨s', h1, hf, ⟨ra, ra2⟩, ⟨rb, rb2⟩, ⟨rc, rc2⟩, n2, n3⟩ := h
    have hWs : ∃ x m k, s'.W = .slice x m k := by
      obtain ⟨xa, xc, hv⟩ := own_slice (T := 9) (k := 1) (n := (a.1.1.1.map Prod.fst).length) (xs := cellsW (a.1.1.1.map Prod.fst)) ra
      exact ⟨_, _, _, hv⟩
    refine (spans2_ok g a.2 s' l w h1 n2 hWs (hc.fl hf) (hc.cx hf)).mono ?_
    rintro e w' ⟨hb, h5⟩
    refine ⟨hb, ?_⟩
    simp only
    cases hx : listP l a.2 with
    | error r =>
      rw [hx] at h5
      obtain ⟨s2, v, l1, rfl, k1, k2, k3⟩ := h5
      obtain ⟨xa, xc, rfl⟩ := own_slice (T := 40) (k := 2) (n := l1.length) (xs := cellsS l1) k3
      refine ⟨_, _, _, rfl, ?_, _, k1.set6 _, k2.W⟩
      obtain ⟨p, N, q1, _⟩ := k1
      exact ⟨_, q1⟩
    | ok b =>
      rw [hx] at h5
      obtain ⟨v, pv, rfl, k2, k3, k4⟩ := h5
      obtain ⟨xa, xc, rfl⟩ := own_slice (T := 40) (k := 2) (n := (b.1.map Prod.fst).length) (xs := cellsS (b.1.map Prod.fst)) k3
      have kx := fun T (hT : T ≠ 61) => rxset_kt k2 hT 6 (.slice xa (b.1.map Prod.fst).length xc)
      refine ⟨_, _, _, rfl, ⟨_, k2⟩, ?_⟩
      exact ⟨_, k2.set6 _, ⟨hf.a, hf.n, hf.c⟩, ⟨((rowW_but ra hb h1).kt (kx _ (by decide))), ((rowI_but ra2 hb h1).kt (kx _ (by decide)))⟩, ⟨((rowM_but rb hb h1).kt (kx _ (by decide))), ((rowI_but rb2 hb h1).kt (kx _ (by decide)))⟩, ⟨((rowS_but rc hb h1).kt (kx _ (by decide))), ((rowI_but rc2 hb h1).kt (kx _ (by decide)))⟩, ⟨(k3.low hc.B).kt (kx _ (by decide)), (k4.low hc.B).kt (kx _ (by decide))⟩, n3⟩
theorem spans3_st {x : Except Er ((((List (ByteArray × Nat) × List (Mg × Nat)) × LL) × LL) × Nat)} (hc : Ctx w0 w g B s l) (h : St x (D4b g B s) g w) :
    Calls Tryd.prog 28 #[.pointer (some ⟨g, 0, none⟩), .int .i64 3] w fun e w' => But g w.heap.size w w' ∧ ∃ xa n c, e = .returned (.slice xa n c) ∧ (∃ s2, RB w' g s2) ∧
      St (match x with | .error e => .error e | .ok a => andP (listP l a.2) fun L q => .ok ((⟨a.1.1.1.1, a.1.1.1.2, a.1.1.2, a.1.2, L, a.2⟩ : Raw), q)) (D5 g B s) g (w'.setCell ⟨g, 7, none⟩ (.slice xa n c)) := by
  cases x with
  | error r =>
    obtain ⟨s', h1, h2⟩ := h
    refine (spans_bad g 3 s' r w h1).mono ?_
    rintro e w' ⟨rfl, h4, h5⟩
    refine ⟨h5, none, 0, 0, rfl, ?_, _, h4.set7 _, h2⟩
    obtain ⟨p, N, k1, _⟩ := h4
    exact ⟨_, k1⟩
  | ok a =>
    obtain ⟨s', h1, hf, ⟨ra, ra2⟩, ⟨rb, rb2⟩, ⟨rc, rc2⟩, ⟨rd, rd2⟩, n3, hbl⟩ := h
    have hWs : ∃ x m k, s'.W = .slice x m k := by
      obtain ⟨xa, xc, hv⟩ := own_slice (T := 9) (k := 1) (n := (a.1.1.1.1.map Prod.fst).length) (xs := cellsW (a.1.1.1.1.map Prod.fst)) ra
      exact ⟨_, _, _, hv⟩
    refine (spans3_ok g a.2 s' l w h1 n3 hWs (hc.fl hf) (hc.cx hf)).mono ?_
    rintro e w' ⟨hb, h5⟩
    refine ⟨hb, ?_⟩
    simp only
    cases hx : listP l a.2 with
    | error r =>
      rw [hx] at h5
      obtain ⟨s2, v, l1, rfl, k1, k2, k3⟩ := h5
      obtain ⟨xa, xc, rfl⟩ := own_slice (T := 40) (k := 2) (n := l1.length) (xs := cellsS l1) k3
      refine ⟨_, _, _, rfl, ?_, _, k1.set7 _, k2.W⟩
      obtain ⟨p, N, q1, _⟩ := k1
      exact ⟨_, q1⟩
    | ok b =>
      rw [hx] at h5
      obtain ⟨v, pv, rfl, k2, k3, k4⟩ := h5
      obtain ⟨xa, xc, rfl⟩ := own_slice (T := 40) (k := 2) (n := (b.1.map Prod.fst).length) (xs := cellsS (b.1.map Prod.fst)) k3
      have kx := fun T (hT : T ≠ 61) => rxset_kt k2 hT 7 (.slice xa (b.1.map Prod.fst).length xc)
      refine ⟨_, _, _, rfl, ⟨_, k2⟩, ?_⟩
      exact ⟨_, k2.set7 _, ⟨hf.a, hf.n, hf.c⟩, ⟨((rowW_but ra hb h1).kt (kx _ (by decide))), ((rowI_but ra2 hb h1).kt (kx _ (by decide))), ((rowM_but rb hb h1).kt (kx _ (by decide))), ((rowI_but rb2 hb h1).kt (kx _ (by decide))), ((rowS_but rc hb h1).kt (kx _ (by decide))), ((rowI_but rc2 hb h1).kt (kx _ (by decide))), ((rowS_but rd hb h1).kt (kx _ (by decide))), ((rowI_but rd2 hb h1).kt (kx _ (by decide))), (k3.low hc.B).kt (kx _ (by decide)), (k4.low hc.B).kt (kx _ (by decide)), hbl⟩⟩
theorem blanks_st {x : Except Er ((((List (ByteArray × Nat) × List (Mg × Nat)) × LL) × LL) × Nat)} (h : St x (D4 g B s) g w) :
    ∃ s2, RB w g s2 ∧ St x (D4b g B s) g (w.setCell ⟨g, 14, none⟩ (.int .i64 (s2.p : Nat))) := by
  cases x with
  | error r =>
    obtain ⟨s', h1, h2⟩ := h
    have h1' := h1
    obtain ⟨p, N, k1, k3, k4⟩ := h1
    exact ⟨_, k1, _, h1'.set14 p, h2⟩
  | ok a =>
    obtain ⟨s', h1, hf, ⟨ra, ra2⟩, ⟨rb, rb2⟩, ⟨rc, rc2⟩, ⟨rd, rd2⟩, n3⟩ := h
    have kx := fun T (hT : T ≠ 61) => rxset_kt h1 hT 14 (.int .i64 (a.2 : Nat))
    refine ⟨{ s' with p := a.2, no := none }, h1, ?_⟩
    show D4b g B s (w.setCell ⟨g, 14, none⟩ (.int .i64 (a.2 : Nat))) a
    exact ⟨_, Rx.setb h1 a.2, ⟨hf.a, hf.n, hf.c⟩, ⟨ra.kt (kx _ (by decide)), ra2.kt (kx _ (by decide))⟩, ⟨rb.kt (kx _ (by decide)), rb2.kt (kx _ (by decide))⟩, ⟨rc.kt (kx _ (by decide)), rc2.kt (kx _ (by decide))⟩, ⟨rd.kt (kx _ (by decide)), rd2.kt (kx _ (by decide))⟩, n3, rfl⟩
theorem sum_st {x : Except Er (Raw × Nat)} (hc : Ctx w0 w g B s l) (h : St x (D5 g B s) g w) :
    Calls Tryd.prog 29 #[.pointer (some ⟨g, 0, none⟩)] w fun e w' => e = .returned (.tuple #[]) ∧ But g w.heap.size w w' ∧
      St (match x with | .error e => .error e | .ok a => (match sumP l a.2 with | .error e => .error e | .ok _ => .ok a.1)) (D6 g B) g w' := by
  cases x with
  | error r =>
    obtain ⟨s', h1, h2⟩ := h
    refine (sum_bad g s' r w h1).mono ?_
    rintro e w' ⟨h3, rfl⟩
    exact ⟨h3, But.refl _ _ _, s', h1, h2⟩
  | ok a =>
    obtain ⟨s', h1, hf, ha⟩ := h
    refine (sum_ok g a.2 s' l w h1 (hc.fl hf) (hc.cx hf)).mono ?_
    rintro e w' ⟨h3, hb, h5⟩
    refine ⟨h3, hb, ?_⟩
    simp only
    unfold SumQ at h5
    cases hx : sumP l a.2 with
    | error r =>
      rw [hx] at h5
      obtain ⟨xa, xc, hv⟩ := own_slice (T := 9) (k := 1) (n := (a.1.ws.map Prod.fst).length) (xs := cellsW (a.1.ws.map Prod.fst)) ha.wr
      exact ⟨s', h5, _, _, _, hv⟩
    | ok u =>
      rw [hx] at h5
      exact ⟨s', _, h5, ⟨rowW_but ha.wr hb h1, rowI_but ha.wp hb h1, rowM_but ha.mr hb h1, rowI_but ha.mp hb h1, rowS_but ha.ar hb h1, rowI_but ha.ap hb h1, rowS_but ha.br hb h1, rowI_but ha.bp hb h1, rowS_but ha.cr hb h1, rowI_but ha.cp hb h1, ha.bl⟩⟩
end
def X0 (l : List UInt8) : Except Er Nat := match magicP l with | some i => .error (i, 11) | none => .ok 4
def X1 (l : List UInt8) : Except Er (List (ByteArray × Nat) × Nat) := match X0 l with | .error e => .error e | .ok p => andP (numP l 0 4096 4 p) fun n q => manyP (wordP l) n q
def X2 (l : List UInt8) : Except Er ((List (ByteArray × Nat) × List (Mg × Nat)) × Nat) := match X1 l with | .error e => .error e | .ok a => andP (manyP (mgP l) a.1.length a.2) fun m q => .ok ((a.1, m), q)
def X3 (l : List UInt8) : Except Er (((List (ByteArray × Nat) × List (Mg × Nat)) × LL) × Nat) := match X2 l with | .error e => .error e | .ok a => andP (listP l a.2) fun L q => .ok ((a.1, L), q)
def X4 (l : List UInt8) : Except Er ((((List (ByteArray × Nat) × List (Mg × Nat)) × LL) × LL) × Nat) := match X3 l with | .error e => .error e | .ok a => andP (listP l a.2) fun L q => .ok ((a.1, L), q)
def X5 (l : List UInt8) : Except Er (Raw × Nat) := match X4 l with | .error e => .error e | .ok a => andP (listP l a.2) fun L q => .ok ((⟨a.1.1.1.1, a.1.1.1.2, a.1.1.2, a.1.2, L, a.2⟩ : Raw), q)
def X6 (l : List UInt8) : Except Er Raw := match X5 l with | .error e => .error e | .ok a => (match sumP l a.2 with | .error e => .error e | .ok _ => .ok a.1)
theorem X1_len {l : List UInt8} {a : List (ByteArray × Nat) × Nat} (h : X1 l = .ok a) : a.1.length ≤ 4096 := by
  unfold X1 at h
  cases h0 : X0 l with
  | error e => rw [h0] at h; cases h
  | ok p =>
    rw [h0] at h
    simp only at h
    cases h1 : numP l 0 4096 4 p with
    | error e => rw [h1] at h; cases h
    | ok k =>
      rw [h1] at h
      have h2 : manyP (wordP l) k.1 k.2 = .ok a := h
      have := manyP_len (l := a.1) (q := a.2) h2
      have h3 := numP_inv (n := k.1) (q := k.2) h1
      omega
theorem X6_raw (l : List UInt8) : X6 l = rawP l := by
  unfold X6 X5 X4 X3 X2 X1 X0 rawP bodyP
  cases h0 : magicP l with
  | some i => rfl
  | none =>
    simp only
    cases h1 : numP l 0 4096 4 4 with
    | error e => rfl
    | ok k1 =>
      obtain ⟨n, p1⟩ := k1
      simp only [andP]
      cases h2 : manyP (wordP l) n p1 with
      | error e => rfl
      | ok k2 =>
        obtain ⟨ws, p2⟩ := k2
        have hl := manyP_len h2
        simp only [hl]
        cases h3 : manyP (mgP l) n p2 with
        | error e => rfl
        | ok k3 =>
          obtain ⟨ms, p3⟩ := k3
          simp only
          cases h4 : listP l p3 with
          | error e => rfl
          | ok k4 =>
            obtain ⟨A, p4⟩ := k4
            simp only
            cases h5 : listP l p4 with
            | error e => rfl
            | ok k5 =>
              obtain ⟨B, p5⟩ := k5
              simp only
              cases h6 : listP l p5 with
              | error e => rfl
              | ok k6 =>
                obtain ⟨C, p6⟩ := k6
                simp only
                cases sumP l p6 <;> rfl
set_option maxHeartbeats 4000000 in
theorem all_any (g B p : Nat) (s : RS) (l : List UInt8) (w0 w : World) (hc : Ctx w0 w g B s l) (h : Rx w g s (.ok p)) (n1 : Nil s.W) (n2 : Nil s.M) (n3 : Nil (s.P 1)) (n4 : Nil (s.P 2)) (n5 : Nil (s.P 3)) (n6 : Nil (s.P 4)) (n7 : Nil (s.P 5)) :
    Calls Tryd.prog 15 #[.pointer (some ⟨g, 0, none⟩)] w fun e w' => e = .returned (.tuple #[]) ∧ But g w.heap.size w w' ∧ St (rawP l) (D6 g B) g w' := by
  have HM := magic_st hc h n1 n2 n3 n4 n5 n6 n7
  have HC : Hid (Ctx w0 w g B s l) := hc
  rw [← X6_raw l]
  clear h hc n1 n2 n3 n4 n5 n6 n7
  go_enter Tryd.func15, Tryd.ntmps15
  go_wp2_with fail
  refine HM.mono ?_
  rintro e w1 ⟨rfl, b1, s1⟩
  have HC1 : Hid (Ctx w0 w1 g B s l) := HC.out.but b1
  clear HM
  go_wp2_with fail
  refine (words_st HC1.out s1).mono ?_
  rintro e w2 ⟨rfl, hb2, s2⟩
  have b2 := b1.trans (hb2.mono b1.size)
  have HC2 : Hid (Ctx w0 w2 g B s l) := HC1.out.but hb2
  clear s1 hb2
  go_wp2_with fail
  refine (merges_st HC2.out s2 (fun a ha => X1_len (l := l) ha)).mono ?_
  rintro e w3 ⟨rfl, hb3, s3⟩
  have b3 := b2.trans (hb3.mono b2.size)
  have HC3 : Hid (Ctx w0 w3 g B s l) := HC2.out.but hb3
  clear s2 hb3
  go_wp2_with fail
  refine (spans1_st HC3.out s3).mono ?_
  rintro e w4 ⟨hb4, xa, n, c, rfl, ⟨t4, k4⟩, s4⟩
  have b4 := (b3.trans (hb4.mono b3.size)).setCell 5 (.slice xa n c)
  have HC4 : Hid (Ctx w0 (w4.setCell ⟨g, 5, none⟩ (.slice xa n c)) g B s l) := (HC3.out.but hb4).set 5 _
  have f4 := k4.free 5
  have c4 := k4.c5
  have S4 : Hid (St _ (D3 g B s) g (w4.setCell ⟨g, 5, none⟩ (.slice xa n c))) := s4
  clear s3 hb4 k4 s4
  go_wp2_with fail
  refine (spans2_st HC4.out S4.out).mono ?_
  clear c4 f4
  rintro e w5 ⟨hb5, xa5, n5, c5, rfl, ⟨t5, k5⟩, s5⟩
  have b5 := (b4.trans (hb5.mono b4.size)).setCell 6 (.slice xa5 n5 c5)
  have HC5 : Hid (Ctx w0 (w5.setCell ⟨g, 6, none⟩ (.slice xa5 n5 c5)) g B s l) := (HC4.out.but hb5).set 6 _
  have f5 := k5.free 6
  have d5 := k5.c6
  obtain ⟨t6, k6, s6⟩ := blanks_st s5
  have f6 := k6.free 14
  have d6 := k6.c14
  have d7 := k6.c1
  have S6 : Hid (St _ (D4b g B s) g ((w5.setCell ⟨g, 6, none⟩ (.slice xa5 n5 c5)).setCell ⟨g, 14, none⟩ (.int .i64 (t6.p : Nat)))) := s6
  have b6 := b5.setCell 14 (.int .i64 (t6.p : Nat))
  have HC6 : Hid (Ctx w0 ((w5.setCell ⟨g, 6, none⟩ (.slice xa5 n5 c5)).setCell ⟨g, 14, none⟩ (.int .i64 (t6.p : Nat))) g B s l) := HC5.out.set 14 _
  clear hb5 k5 k6 s5 s6 S4
  go_wp2_with fail
  refine (spans3_st HC6.out S6.out).mono ?_
  clear f5 d5 f6 d6 d7
  rintro e w7 ⟨hb7, xa7, n7, c7, rfl, ⟨t7, k7⟩, s7⟩
  have b7 := (b6.trans (hb7.mono b6.size)).setCell 7 (.slice xa7 n7 c7)
  have HC7 : Hid (Ctx w0 (w7.setCell ⟨g, 7, none⟩ (.slice xa7 n7 c7)) g B s l) := (HC6.out.but hb7).set 7 _
  have f7 := k7.free 7
  have d7 := k7.c7
  have S7 : Hid (St _ (D5 g B s) g (w7.setCell ⟨g, 7, none⟩ (.slice xa7 n7 c7))) := s7
  clear hb7 k7 s7 S6
  go_wp2_with fail
  refine (sum_st HC7.out S7.out).mono ?_
  rintro e w8 ⟨rfl, hb8, s8⟩
  go_wp2_with fail
  go_end0
  exact ⟨rfl, b7.trans (hb8.mono b7.size), s8⟩
end Go.Proofs.YtplmmamebfpcjaaDoor
end
section
/- What a reading gives: the mathematics. -/
namespace Go.Proofs.YtplmmamebfpcjaaDoor
set_option linter.unusedVariables false
set_option maxRecDepth 100000
theorem many_all {α : Type} {f : Nat → Except Er (α × Nat)} {P : α → Prop} (hf : ∀ p x q, f p = .ok (x, q) → P x) : ∀ {n p : Nat} {l : List (α × Nat)} {q : Nat}, manyP f n p = .ok (l, q) → ∀ y ∈ l, P y.1 := by
  intro n
  induction n with
  | zero => intro p l q h y hy; cases h; cases hy
  | succ n ih =>
    intro p l q h y hy
    cases hx : manyP f n p with
    | error e => rw [manyP_err hx] at h; cases h
    | ok a =>
      obtain ⟨m, r⟩ := a
      rw [manyP_go hx] at h
      cases hr : f r with
      | error e => rw [hr] at h; cases h
      | ok b =>
        obtain ⟨x, s⟩ := b
        rw [hr] at h
        cases h
        rcases List.mem_append.1 hy with h1 | h1
        · exact ih hx y h1
        · simp at h1; subst h1; exact hf _ _ _ hr
theorem andP_ok {α β : Type} {x : Except Er (α × Nat)} {f : α → Nat → Except Er β} {b : β} (h : andP x f = .ok b) : ∃ a p, x = .ok (a, p) ∧ f a p = .ok b := by
  cases x with
  | error e => cases h
  | ok a => exact ⟨a.1, a.2, rfl, h⟩
theorem raw_inv {l : List UInt8} {r : Raw} (h : rawP l = .ok r) : magicP l = none ∧ ∃ n p1 p2 p3 p4 p6, numP l 0 4096 4 4 = .ok (n, p1) ∧ manyP (wordP l) n p1 = .ok (r.ws, p2) ∧ manyP (mgP l) n p2 = .ok (r.ms, p3) ∧ listP l p3 = .ok (r.A, p4) ∧ listP l p4 = .ok (r.B, r.blank) ∧ listP l r.blank = .ok (r.C, p6) ∧ sumP l p6 = .ok () := by
  unfold rawP at h
  cases h0 : magicP l with
  | some i => rw [h0] at h; cases h
  | none =>
    rw [h0] at h
    simp only at h
    obtain ⟨r0, p, h1, h2⟩ := andP_ok h
    unfold bodyP at h1
    obtain ⟨n, p1, k1, h1⟩ := andP_ok h1
    obtain ⟨ws, p2, k2, h1⟩ := andP_ok h1
    obtain ⟨ms, p3, k3, h1⟩ := andP_ok h1
    obtain ⟨A, p4, k4, h1⟩ := andP_ok h1
    obtain ⟨B, p5, k5, h1⟩ := andP_ok h1
    obtain ⟨C, p6, k6, h1⟩ := andP_ok h1
    cases h1
    cases hs : sumP l p with
    | error e => rw [hs] at h2; cases h2
    | ok u =>
      rw [hs] at h2
      cases h2
      exact ⟨rfl, n, p1, p2, p3, p4, p, k1, k2, k3, k4, k5, k6, hs⟩
theorem mgP_bd {l : List UInt8} {p q : Nat} {x : Mg} (h : mgP l p = .ok (x, q)) : (0 ≤ x.l ∧ x.l ≤ 2147483647) ∧ (0 ≤ x.r ∧ x.r ≤ 2147483647) ∧ (0 ≤ x.i ∧ x.i ≤ 2147483647) := by
  unfold mgP idP at h
  obtain ⟨a, p1, k1, h⟩ := andP_ok h
  obtain ⟨b, p2, k2, h⟩ := andP_ok h
  obtain ⟨c, p3, k3, h⟩ := andP_ok h
  cases h
  have := numP_inv k1
  have := numP_inv k2
  have := numP_inv k3
  refine ⟨⟨?_, ?_⟩, ⟨?_, ?_⟩, ?_, ?_⟩ <;> simp only <;> omega
theorem spP_bd {l : List UInt8} {p q : Nat} {x : Sp} (h : spP l p = .ok (x, q)) : (0 ≤ x.lo ∧ x.lo ≤ 1114111) ∧ (0 ≤ x.hi ∧ x.hi ≤ 1114111) := by
  unfold spP endP at h
  obtain ⟨a, p1, k1, h⟩ := andP_ok h
  obtain ⟨b, p2, k2, h⟩ := andP_ok h
  cases h
  have := numP_inv k1
  have := numP_inv k2
  refine ⟨⟨?_, ?_⟩, ?_, ?_⟩ <;> simp only <;> omega
theorem listP_len {l : List UInt8} {p q : Nat} {x : List (Sp × Nat)} (h : listP l p = .ok (x, q)) : x.length ≤ 512 := by
  unfold listP at h
  obtain ⟨n, p1, k1, h⟩ := andP_ok h
  have := numP_inv k1
  have := manyP_len h
  omega
structure RawOk (r : Raw) : Prop where
  nw : r.ws.length ≤ 4096
  nm : r.ms.length = r.ws.length
  na : r.A.length ≤ 512
  nb : r.B.length ≤ 512
  nc : r.C.length ≤ 512
  ms : ∀ x ∈ r.M, (0 ≤ x.l ∧ x.l ≤ 2147483647) ∧ (0 ≤ x.r ∧ x.r ≤ 2147483647) ∧ (0 ≤ x.i ∧ x.i ≤ 2147483647)
theorem raw_ok {l : List UInt8} {r : Raw} (h : rawP l = .ok r) : RawOk r := by
  obtain ⟨_, n, p1, p2, p3, p4, p6, k1, k2, k3, k4, k5, k6, k7⟩ := raw_inv h
  have h1 := numP_inv k1
  have h2 := manyP_len k2
  have h3 := manyP_len k3
  refine ⟨by omega, by omega, listP_len k4, listP_len k5, listP_len k6, fun x hx => ?_⟩
  obtain ⟨y, hy, rfl⟩ := List.mem_map.1 hx
  exact many_all (P := fun x => (0 ≤ x.l ∧ x.l ≤ 2147483647) ∧ (0 ≤ x.r ∧ x.r ≤ 2147483647) ∧ (0 ≤ x.i ∧ x.i ≤ 2147483647)) (fun p x q hh => mgP_bd hh) k3 y hy
end Go.Proofs.YtplmmamebfpcjaaDoor
end
section
/- reader.place: its contract. -/
namespace Go.Proofs.YtplmmamebfpcjaaDoor
open Go.RowKit Go.Sort Go.Joins
set_option linter.unusedVariables false
set_option maxRecDepth 100000
theorem checkA_li {A B C : List Sp} (h : (checkA A B C).1 ≠ 0) : 1 ≤ (checkA A B C).2.1 ∧ (checkA A B C).2.1 ≤ 3 := by
  unfold checkA at h ⊢
  cases hf : (List.range 9).find? (fun q => decide ((ent A B C q).2 ≠ 0)) with
  | some q => simp only; omega
  | none =>
    rw [hf] at h
    simp only at h ⊢
    by_cases hb : blankB A B C = true
    · rw [if_pos hb]; exact ⟨by decide, by decide⟩
    · rw [if_neg hb] at h; exact absurd rfl h
theorem checkD_li {ws : List ByteArray} {ms : List Mg} {A B C : List Sp} (h : (checkD ws ms A B C).1 ≠ 0) : 1 ≤ (checkD ws ms A B C).2.1 ∧ (checkD ws ms A B C).2.1 ≤ 5 := by
  unfold checkD at h ⊢
  by_cases h1 : 4096 < ms.length
  · rw [if_pos h1]; exact ⟨by decide, by decide⟩
  · rw [if_neg h1] at h ⊢
    by_cases h2 : ws.length ≠ ms.length
    · rw [if_pos h2]; exact ⟨by show 1 ≤ 4; omega, by show 4 ≤ 5; omega⟩
    · rw [if_neg h2] at h ⊢
      by_cases h3 : (checkA A B C).1 ≠ 0
      · rw [if_pos h3]; have := checkA_li h3; omega
      · rw [if_neg h3] at h ⊢
        by_cases h4 : (firstBad (badW ws) ws.length).1 ≠ 0
        · rw [if_pos h4]; exact ⟨by show 1 ≤ 4; omega, by show 4 ≤ 5; omega⟩
        · rw [if_neg h4] at h ⊢
          by_cases h5 : (firstBad (badM ws ms) ms.length).1 ≠ 0
          · rw [if_pos h5]; exact ⟨by show 1 ≤ 5; omega, by show 5 ≤ 5; omega⟩
          · rw [if_neg h5] at h; exact absurd rfl h
theorem AllAt.place {w : World} {B : Nat} {s : RS} {r : Raw} (h : AllAt w B s r) {li : Nat} (h1 : 1 ≤ li) (h2 : li ≤ 5) : RowI w B (s.P li) (placesR r li) := by
  rcases (show li = 1 ∨ li = 2 ∨ li = 3 ∨ li = 4 ∨ li = 5 by omega) with rfl | rfl | rfl | rfl | rfl
  · exact h.ap
  · exact h.bp
  · exact h.cp
  · exact h.wp
  · exact h.mp
theorem RowI.cells {w : World} {B : Nat} {v : Value} {l : List Nat} (h : RowI w B v l) : ∃ x c, v = .slice x l.length c ∧ (l = [] ∨ ∃ b, x = some ⟨b, 0, none⟩ ∧ ∀ i k, l[i]? = some k → w.cell? ⟨b, i, none⟩ = some (.int .i64 (k : Nat))) := by
  rcases h.2 with ⟨hv, h0⟩ | ⟨g, cap, cur, rfl, hg, hh, hn, hm, hcs, ht⟩
  · exact ⟨none, 0, by rw [hv, h0], .inl (List.length_eq_zero_iff.1 h0)⟩
  · refine ⟨_, cap, rfl, .inr ⟨g, rfl, fun i k hk => ?_⟩⟩
    have hi := (List.getElem?_eq_some_iff.1 hk).1
    rw [World.ownsRow.cellAt h i (by omega)]
    simp [cellsI, hk]
set_option maxHeartbeats 4000000 in
theorem place_any (g B q y li ro : Nat) (s : RS) (r : Raw) (w : World) (hr : Rx w g s (.ok q)) (ha : AllAt w B s r) (h1 : 1 ≤ li) (h2 : li ≤ 5) :
    Calls Tryd.prog 17 #[.pointer (some ⟨g, 0, none⟩), .agg #[.int .i64 (y : Nat), .int .i64 (li : Nat), .int .i64 (ro : Nat)]] w fun e w' => e = .returned (.int .i64 ((placeR r li ro : Nat))) ∧ Below w.heap.size w w' := by
  have hb0 := box_below w (.cells #[.int .i64 (y : Nat), .int .i64 (li : Nat), .int .i64 (ro : Nat)] 36)
  have hN := Blk.new w (.cells #[.int .i64 (y : Nat), .int .i64 (li : Nat), .int .i64 (ro : Nat)] 36)
  have d1 := hN.cell 1
  have d2 := hN.cell 2
  have hx0 : Rx (w.alloc (.cells #[.int .i64 (y : Nat), .int .i64 (li : Nat), .int .i64 (ro : Nat)] 36)) g s (.ok q) := Rx.below hr hb0
  have hI := (ha.place h1 h2).kt (KT.of_below hb0)
  have hbl := ha.bl
  have c14 := RB.c14 (s := { s with p := q, no := none }) hx0
  have cP : (w.alloc (.cells #[.int .i64 (y : Nat), .int .i64 (li : Nat), .int .i64 (ro : Nat)] 36)).cell? ⟨g, 8 + li, none⟩ = some (s.P li) := RB.cellP (s := { s with p := q, no := none }) hx0 (by omega)
  obtain ⟨x, c, hv, hc⟩ := hI.cells
  rw [hv] at cP
  simp only at c14
  rw [hbl] at c14
  obtain ⟨Y, hY⟩ : ∃ Y, Y = w.alloc (.cells #[.int .i64 (y : Nat), .int .i64 (li : Nat), .int .i64 (ro : Nat)] 36) := ⟨_, rfl⟩
  have i1 : (0 : Int) ≤ (li : Int) := by omega
  have i2 : (li : Int) < 6 := by omega
  have i3 : (0 : Int) ≤ (ro : Int) := by omega
  obtain ⟨m, hm⟩ : ∃ m, m = (placesR r li).length := ⟨_, rfl⟩
  rw [← hm] at cP
  have HM : Hid (m = (placesR r li).length) := hm
  have HC : Hid (placesR r li = [] ∨ ∃ b, x = some ⟨b, 0, none⟩ ∧ ∀ i k, (placesR r li)[i]? = some k → Y.cell? ⟨b, i, none⟩ = some (.int .i64 (k : Nat))) := by rw [hY]; exact hc
  rw [← hY] at hb0 hN cP c14 d1 d2
  have HY : Hid (Y = w.alloc (.cells #[.int .i64 (y : Nat), .int .i64 (li : Nat), .int .i64 (ro : Nat)] 36)) := hY
  clear hr ha hx0 hI hbl hv hc hm hN hY
  by_cases hlt : ro < m
  · have hI : (ro : Int) < (m : Int) := by omega
    rcases HC.out with h0 | ⟨b, hx, hcc⟩
    · have := HM.out; rw [h0] at this; simp at this; omega
    · have hrl : ro < (placesR r li).length := by rw [← HM.out]; exact hlt
      have cc := hcc ro _ (List.getElem?_eq_getElem hrl)
      rw [hx] at cP
      have hp : placeR r li ro = (placesR r li)[ro] := by unfold placeR; simp [hrl]
      obtain ⟨pl, hpl⟩ : ∃ pl, pl = (placesR r li)[ro] := ⟨_, rfl⟩
      rw [← hpl] at cc hp
      rw [hp]
      clear hp hpl hcc hx
      go_enter Tryd.func17, Tryd.ntmps17
      go_wp2_with fail
      rw [← HY.out]
      go_quiet (fail)
      go_wp2_with fail
      go_ret
      exact ⟨rfl, hb0.trans ((below_drawn Y _).mono hb0.size)⟩
  · have hI : ¬ (ro : Int) < (m : Int) := by omega
    have hp : placeR r li ro = r.blank := by unfold placeR; rw [List.getD_eq_getElem?_getD, List.getElem?_eq_none (by rw [← HM.out]; omega)]; rfl
    rw [hp]
    clear hp
    go_enter Tryd.func17, Tryd.ntmps17
    go_wp2_with fail
    rw [← HY.out]
    go_quiet (fail)
    go_wp2_with fail
    go_ret
    exact ⟨rfl, hb0.trans ((below_drawn Y _).mono hb0.size)⟩
end Go.Proofs.YtplmmamebfpcjaaDoor
end
