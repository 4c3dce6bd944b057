import Derived.Test.YtplmmamebfpcjaaGreatDoorJ11
import Derived.OrdersHeld
import Derived.Test.YtplmmamebfpcjaaGreatDoorJ6
section
/- A region that draws its order: its head (loads among calls that keep what the loads read) in whatever order, S holding all the while; then its tail, one operation behind the other, of which nothing is asked for S. -/
namespace Go.Proofs.YtplmmamebfpcjaaGreatDoor
open Go.RowKit
section
variable {P : Program} {ops : Array Oper} {md : Region.Mode} {Q : Exit → Act → World → Prop} {S : World → Prop} {n : Nat} {L : Array Bool → Act → World → Prop}
def HL (P : Program) (md : Region.Mode) (ops : Array Oper) (Q : Exit → Act → World → Prop) (S : World → Prop) (n : Nat) (L : Array Bool → Act → World → Prop) : Nat → Array Bool → Act → World → Prop
  | 0, listed, a, w => L listed a w
  | f + 1, listed, a, w =>
    Region.ready md ops listed ≠ [] ∧ ∀ i ∈ Region.ready md ops listed, i < n ∧ wpOp P ops Q i (fun a' w' => S w' ∧ HL P md ops Q S n L f (listed.setIfInBounds i true) a' w') a w
theorem of_HL {g : Nat} (hL : ∀ listed a w, L listed a w → wpAny P md ops Q g listed a w) : ∀ (f : Nat) (listed : Array Bool) (a : Act) (w : World), HL P md ops Q S n L f listed a w → wpAny P md ops Q (f + g) listed a w
  | 0, listed, a, w, h => by rw [Nat.zero_add]; exact hL _ _ _ h
  | f + 1, listed, a, w, h => by
    rw [show f + 1 + g = (f + g) + 1 by omega]
    exact ⟨fun h0 => absurd h0 h.1, fun i hi => wpOp_mono (fun a' w' h' => of_HL hL f _ a' w' h'.2) (h.2 i hi).2⟩
/-- No operation of the tail has come up; what one that has come up waits for has come up. -/
structure TailNo (md : Region.Mode) (ops : Array Oper) (n : Nat) (listed : Array Bool) : Prop where
  no : ∀ t, n ≤ t → t < ops.size → listed.getD t true = false
  closed : ∀ (i : Nat) (o : Oper), listed.getD i false = true → ops[i]? = some o → ∀ e ∈ o.after, Region.binds md e = true → listed.getD e.on false = true
theorem head_all (ht : tailB2 md ops n n = true) {listed : Array Bool} (hv : TailNo md ops n listed) {j : Nat} (hj : j ∈ Region.ready md ops listed) (hnj : n ≤ j) : ∀ d i, i < n → n - i ≤ d → listed.getD i false = true := by
  obtain ⟨hun, o, ho, hdep⟩ := mem_ready.1 hj
  have hjsz := (Array.getElem?_eq_some_iff.1 ho).1
  have h1 := List.all_eq_true.1 ht j (List.mem_range.2 hjsz)
  simp only [Bool.or_eq_true, decide_eq_true_eq] at h1
  intro d
  induction d with
  | zero => intro i hi hd; omega
  | succ d ih =>
    intro i hi hd
    rcases h1 with (h1 | h1) | h1
    · omega
    · have h2 := List.all_eq_true.1 h1 i (List.mem_range.2 hi)
      simp only [Bool.or_eq_true] at h2
      rcases h2 with h2 | h2
      · obtain ⟨oj, hoj, e, he, hb, hon⟩ := Region.waitsFor_spec h2
        obtain rfl : oj = o := Option.some.inj (hoj.symm.trans ho)
        have := hdep e he hb
        rwa [hon] at this
      · obtain ⟨k, hk, hk2⟩ := List.any_eq_true.1 h2
        simp only [Bool.and_eq_true, decide_eq_true_eq] at hk2
        have hkn := List.mem_range.1 hk
        obtain ⟨ok, hok, e, he, hb, hon⟩ := Region.waitsFor_spec hk2.2
        have := hv.closed k ok (ih k hkn (by omega)) hok e he hb
        rwa [hon] at this
    · obtain ⟨k, hk, hk2⟩ := List.any_eq_true.1 h1
      simp only [Bool.and_eq_true, decide_eq_true_eq] at hk2
      obtain ⟨oj, hoj, e, he, hb, hon⟩ := Region.waitsFor_spec hk2.2
      obtain rfl : oj = o := Option.some.inj (hoj.symm.trans ho)
      have := hdep e he hb
      have hkl := List.mem_range.1 hk
      rw [hon, getD_both (hv.no k hk2.1 (by omega))] at this
      cases this
theorem head_ready (ht : tailB2 md ops n n = true) {listed : Array Bool} (hv : TailNo md ops n listed) {i j : Nat} (hi : i < n) (hu : listed.getD i false = false) (hj : j ∈ Region.ready md ops listed) : j < n := by
  rcases Nat.lt_or_ge j n with h | h
  · exact h
  · have := head_all ht hv hj h n i hi (by omega)
    rw [hu] at this; cases this
theorem TailNo.set {listed : Array Bool} (h : TailNo md ops n listed) {i : Nat} (hi : i < n) (hr : i ∈ Region.ready md ops listed) : TailNo md ops n (listed.setIfInBounds i true) := by
  refine ⟨fun t h1 h2 => by rw [getD_set_ne true (by omega)]; exact h.no t h1 h2, fun k o hk ho e he hb => ?_⟩
  obtain ⟨hun, oi, hoi, hdep⟩ := mem_ready.1 hr
  by_cases hki : k = i
  · subst hki
    obtain rfl : oi = o := Option.some.inj (hoi.symm.trans ho)
    exact getD_set_true (hdep e he hb)
  · rw [getD_set_ne false (fun e => hki e.symm)] at hk
    exact getD_set_true (h.closed k o hk ho e he hb)
theorem HL_first {i : Nat} {oi : Oper} {v : Value} (hi : ops[i]? = some oi) (hsel : ∀ (j : Nat) (o : Oper) cs b, ops[j]? = some o → o.op ≠ .select cs b)
    (hQ : ∀ c a w, Q (.panic c) (a.put oi.dst v) w → Q (.panic c) a w) (ht : tailB2 md ops n n = true) (hin : i < n) (hdone : ∀ listed a w, L listed a w → ∀ j ∈ Region.ready md ops listed, n ≤ j) :
    ∀ (f : Nat) (listed : Array Bool) (a : Act) (w : World), TailNo md ops n listed →
      (∀ j oj, ops[j]? = some oj → j ≠ i → listed.getD j true = false → (∀ e ∈ oj.after, Region.binds md e = true → e.on ≠ i) → oi.apart ops oj = true) →
      i ∈ Region.ready md ops listed → YieldsIf P ops S oi v a → S w →
      HL P md ops Q S n L f (listed.setIfInBounds i true) (a.put oi.dst v) w → HL P md ops Q S n L (f + 1) listed a w := by
  intro f
  induction f with
  | zero =>
    intro listed a w hv _ hr hy hS H
    refine ⟨fun h => (by rw [h] at hr; cases hr), fun j hj => ?_⟩
    have hjn := head_ready ht hv hin (getD_both (mem_ready.1 hr).1) hj
    refine ⟨hjn, ?_⟩
    by_cases hji : j = i
    · subst hji; exact hy.wpOp hi hS ⟨hS, H⟩
    · have := hdone _ _ _ H j (ready_mono hj hji)
      omega
  | succ f ih =>
    intro listed a w hv hfree hr hy hS H
    refine ⟨fun h => (by rw [h] at hr; cases hr), fun j hj => ?_⟩
    have hjn := head_ready ht hv hin (getD_both (mem_ready.1 hr).1) hj
    refine ⟨hjn, ?_⟩
    by_cases hji : j = i
    · subst hji; exact hy.wpOp hi hS ⟨hS, H⟩
    · have h1 := (H.2 j (ready_mono hj hji)).2
      obtain ⟨hjun, oj, hoj, hall⟩ := mem_ready.1 hj
      have hnot : ∀ e ∈ oj.after, Region.binds md e = true → e.on ≠ i := fun e he hb heq => by
        have h1 := hall e he hb
        have h0 := (mem_ready.1 hr).1
        rw [heq] at h1
        rw [getD_both h0] at h1
        cases h1
      have h2 := wpOp_putIf hoj (hfree j oj hoj hji hjun hnot) (fun cs b => hsel i oi cs b hi) (fun cs b => hsel j oj cs b hoj) hQ hy h1
      have hfree' : ∀ k ok, ops[k]? = some ok → k ≠ i → (listed.setIfInBounds j true).getD k true = false →
          (∀ e ∈ ok.after, Region.binds md e = true → e.on ≠ i) → oi.apart ops ok = true := fun k ok hk hki hun hno => by
        refine hfree k ok hk hki ?_ hno
        by_cases hjk : j = k
        · subst hjk; exact hjun
        · rw [getD_set_ne true hjk] at hun; exact hun
      refine wpOp_mono (fun a' w' h3 => ⟨h3.2.1, ih (listed.setIfInBounds j true) a' w' (hv.set hjn hj) hfree' (ready_mono hr (Ne.symm hji)) h3.1 h3.2.1 ?_⟩) h2
      rw [Array.setIfInBounds_comm _ _ hji]
      exact h3.2.2
/-- What holds behind the head: the tail is to be walked. -/
def TailL (P : Program) (Q : Exit → Act → World → Prop) (n : Nat) (l : List Oper) (listed : Array Bool) (a : Act) (w : World) : Prop :=
  listed = Array.replicate n true ++ Array.replicate (l.length - n) false ∧ wpList P l.toArray Q (l.drop n) a w
def heldB (md : Region.Mode) (l : List Oper) (n : Nat) : Bool :=
  decide (n ≤ l.length) && tailB2 md l.toArray n n && Region.noSelect l.toArray && Region.seqB md l.toArray (l.length - n) n (Array.replicate n true ++ Array.replicate (l.length - n) false)
theorem tailL_done {l : List Oper} {listed : Array Bool} {a : Act} {w : World} (h : TailL P Q n l listed a w) : ∀ j ∈ Region.ready md l.toArray listed, n ≤ j := by
  intro j hj
  obtain ⟨hun, o, ho, _⟩ := mem_ready.1 hj
  rcases Nat.lt_or_ge j n with h1 | h1
  · rw [h.1] at hun
    have hjs : j < (Array.replicate n true ++ Array.replicate (l.length - n) false).size := by simp; omega
    rw [Array.getD_eq_getD_getElem?, Array.getElem?_eq_getElem hjs, Array.getElem_append_left (by simpa using h1)] at hun
    simp at hun
  · exact h1
def tailNoB (md : Region.Mode) (l : List Oper) (n : Nat) (listed : Array Bool) : Bool :=
  ((List.range l.length).all fun t => decide (t < n) || !listed.getD t true) &&
  ((List.range l.length).all fun i => !listed.getD i false || match l[i]? with | some o => o.after.toList.all fun e => !Region.binds md e || listed.getD e.on false | none => true)
theorem tailNo_of {l : List Oper} {listed : Array Bool} (h : tailNoB md l n listed = true) : TailNo md l.toArray n listed := by
  unfold tailNoB at h
  rw [Bool.and_eq_true] at h
  refine ⟨fun t h1 h2 => ?_, fun i o hi ho e he hb => ?_⟩
  · have := List.all_eq_true.1 h.1 t (List.mem_range.2 (by simpa using h2))
    simp only [Bool.or_eq_true, decide_eq_true_eq, Bool.not_eq_true'] at this
    rcases this with h3 | h3
    · omega
    · exact h3
  · have ho' : l[i]? = some o := by simpa using ho
    have := List.all_eq_true.1 h.2 i (List.mem_range.2 (List.getElem?_eq_some_iff.1 ho').1)
    rw [ho', hi] at this
    simp only [Bool.not_true, Bool.false_or] at this
    have := List.all_eq_true.1 this e (by simpa using he)
    rw [hb] at this
    simpa using this
/-- Taken first. -/
theorem HL_take {l : List Oper} {i : Nat} {oi : Oper} (v : Value) {f : Nat} {listed : Array Bool} {a : Act} {w : World} (hB : heldB md l n = true) (hi : l.toArray[i]? = some oi) (hin : i < n) (htn : tailNoB md l n listed = true)
    (hf : Region.free md l.toArray listed i = true) (hr : (Region.ready md l.toArray listed).contains i = true)
    (hQ : ∀ c (a : Act) w, Q (.panic c) (a.put oi.dst v) w → Q (.panic c) a w) (hy : YieldsIf P l.toArray S oi v a) (hS : S w)
    (h : HL P md l.toArray Q S n (TailL P Q n l) f (listed.setIfInBounds i true) (a.put oi.dst v) w) : HL P md l.toArray Q S n (TailL P Q n l) (f + 1) listed a w := by
  unfold heldB at hB
  simp only [Bool.and_eq_true, decide_eq_true_eq] at hB
  exact HL_first hi (Region.noSelect_spec hB.1.2) hQ hB.1.1.2 hin (fun _ _ _ h => tailL_done h) f listed a w (tailNo_of htn) (Region.free_spec hi hf) (by simpa using hr) hy hS h
theorem HL_one {L : Array Bool → Act → World → Prop} {i : Nat} {o : Oper} {f : Nat} {listed : Array Bool} {a : Act} {w : World} (hi : ops[i]? = some o) (hin : i < n) (hr : Region.ready md ops listed = [i]) (hg : o.guard = none)
    (h : o.wp P a w (fun a' w' => S w' ∧ HL P md ops Q S n L f (listed.setIfInBounds i true) a' w') Q) : HL P md ops Q S n L (f + 1) listed a w := by
  refine ⟨by rw [hr]; exact List.cons_ne_nil _ _, fun k hk => ?_⟩
  rw [hr] at hk
  obtain rfl : k = i := by simpa using hk
  refine ⟨hin, ?_⟩
  unfold wpOp
  simp only [hi, Region.wanted, hg, if_true]
  exact .inl h
theorem wp_value {o : Oper} {a : Act} {w w' : World} {v : Value} {K : Act → World → Prop} (hrun : (execOp a.eval o).run P w = .ok (.value v) w') (h : K (a.put o.dst v) w') : o.wp P a w K Q := by
  unfold Oper.wp
  rw [hrun]
  exact h
theorem wp_enter {o : Oper} {a : Act} {w : World} {f : FuncId} {args : Array Value} {K : Act → World → Prop} (hrun : (execOp a.eval o).run P w = .ok (.enter f args) w) (h : Calls P f args w fun e w' => ∃ v, e = .returned v ∧ K (a.put o.dst v) w') : o.wp P a w K Q := by
  unfold Oper.wp
  rw [hrun]
  refine h.mono ?_
  rintro e w' ⟨v, rfl, hK⟩
  exact hK
theorem wp_append {o : Oper} {a : Act} {w : World} {K : Act → World → Prop} (s x : Operand) (t tx : TypeId) (hop : o.op = Op.call { callee := Callee.builtin Builtin.append, args := #[s, x], argTypes := #[t, tx] }) (v y : Value) (hs : a.eval s = v) (hx : a.eval x = y) (R : Value → World → Prop)
    (hr : ∃ v' w', (Builtin.append_ #[t, tx] o.type #[v, y]).run P w = .ok v' w' ∧ R v' w') (hK : ∀ v' w', R v' w' → K (a.put o.dst v') w') : o.wp P a w K Q := by
  obtain ⟨v', w', hrun, hR⟩ := hr
  unfold Oper.wp
  simp [execOp, hop, resolve, invoke, builtin, hs, hx, hrun, Result.andThen]
  exact hK v' w' hR
/-- THE LAW. -/
theorem wp_region_heldtail {id : Nat} {a : Act} {w : World} {l : List Oper} (n : Nat) (S : World → Prop) (hm : P.follows .mixedOrders = true) (hB : heldB .any l n = true)
    (h : HL P .any l.toArray Q S n (TailL P Q n l) n (Array.replicate l.length false) a w.drew) : (Code.region id l.toArray true).wp P Q a w := by
  have hB' := hB
  unfold heldB at hB'
  simp only [Bool.and_eq_true, decide_eq_true_eq] at hB'
  refine wp_region_any hm ?_
  have h1 := of_HL (g := l.length - n) (fun listed a w hl => by
    obtain ⟨rfl, h2⟩ := hl
    have := wpAny_of_seq (P := P) (md := .any) (ops := l.toArray) (Q' := Q) (l.drop n) n (Array.replicate n true ++ Array.replicate (l.length - n) false) a w (fun j => by simp) (by rw [List.length_drop]; exact hB'.2) h2
    rwa [List.length_drop] at this) n _ a w.drew h
  rw [show n + (l.length - n) = l.toArray.size by simp; omega] at h1
  simpa using h1
end
end Go.Proofs.YtplmmamebfpcjaaGreatDoor
end
section
/- The closure that reads one word: its contract. -/
namespace Go.Proofs.YtplmmamebfpcjaaGreatDoor
open Go.RowKit Go.Sort Go.Joins
set_option linter.unusedVariables false
set_option maxRecDepth 100000
set_option linter.unusedSimpArgs false
/-- What was read, or where the reader stands refused. -/
def StepOf {α : Type} (x : Except Er (α × Nat)) (t : α) (x' : Except Er Nat) : Prop :=
  match x with
  | .ok (a, q) => t = a ∧ x' = .ok q
  | .error e => x' = .error e
theorem WordQ.step {w' : World} {g : Nat} {s : RS} {x : Except Er (ByteArray × Nat)} {t : ByteArray} (h : WordQ w' g s x t) (h0 : s.no = none) : ∃ x', StepOf x t x' ∧ Rx w' g s x' := by
  obtain ⟨a, n, c, p, no, W, M, A, B, C, P, bl⟩ := s
  simp only at h0
  subst h0
  cases x with
  | ok k => obtain ⟨h1, h2⟩ := h; exact ⟨.ok k.2, ⟨h1, rfl⟩, h2⟩
  | error e => exact ⟨.error e, rfl, h⟩
/-- What a closure of the reader's leaves. -/
structure CloP (w : World) (g bx B : Nat) (w' : World) : Prop where
  but : But g B w w'
  ints : KT 3 w w'
  box : BoxR w' bx g
theorem Rx.setW3 {w : World} {g : Nat} {s : RS} {x : Except Er Nat} (h : Rx w g s x) (v : Value) : Rx (w.setCell ⟨g, 3, none⟩ v) g { s with W := v } x := by
  cases x with
  | ok q => exact RB.setW h v
  | error e => obtain ⟨p, N, k1, k3, k4⟩ := h; exact ⟨p, N, k1.setW v, k3, (Below.heap_setCell _ _ _ N (by show N ≠ g; omega)).trans k4⟩
theorem Rx.cM {w : World} {g : Nat} {s : RS} {x : Except Er Nat} (h : Rx w g s x) : w.cell? ⟨g, 4, none⟩ = some s.M := by obtain ⟨_, _, h⟩ := h.form; exact h.c4
theorem Rx.free {w : World} {g : Nat} {s : RS} {x : Except Er Nat} (h : Rx w g s x) (i : Nat) : w.frozen? ⟨g, i, none⟩ = false := by obtain ⟨_, _, h⟩ := h.form; exact h.free i
theorem Rx.setkt {w : World} {g : Nat} {s : RS} {x : Except Er Nat} (h : Rx w g s x) {T : TypeId} (hT : T ≠ 88) (o : Nat) (v : Value) : KT T w (w.setCell ⟨g, o, none⟩ v) := by obtain ⟨_, _, h⟩ := h.form; exact set_kt h hT o v
theorem cell_set_ne {w : World} {b i g j : Nat} {v : Value} (h : w.cell? ⟨b, i, none⟩ = some v) (hne : b ≠ g) (u : Value) : (w.setCell ⟨g, j, none⟩ u).cell? ⟨b, i, none⟩ = some v :=
  (World.cell?_of_block (w := w) (a := ⟨b, i, none⟩) (Below.heap_setCell _ _ _ b hne)).trans h
theorem cell_new {w : World} {b i : Nat} {v : Value} (h : w.cell? ⟨b, i, none⟩ = some v) (o : Obj) : (w.alloc o).cell? ⟨b, i, none⟩ = some v :=
  ((Below.refl _ _).alloc (Nat.le_refl _) o).cell (World.block_lt_of_cell? w _ h) |>.trans h
def AppW (w : World) (g bx B : Nat) (s : RS) (x : Except Er Nat) (l : List ByteArray) (v : Value) (w' : World) : Prop := Rx w' g s x ∧ RowW w' B v l ∧ But g B w w' ∧ KT 3 w w' ∧ BoxR w' bx g ∧ ∃ gg cap, v = .slice (some ⟨gg, 0, none⟩) l.length cap
theorem But.alloc {g B : Nat} {w w1 : World} (h : But g B w w1) (hB : B ≤ w1.heap.size) (o : Obj) : But g B w (w1.alloc o) := h.trans (But.of_below ((box_below w1 o).mono hB))
theorem But.grow {g B base : Nat} {w w1 w2 : World} {T : TypeId} {k : Nat} {v : Value} {n : Nat} {xs : List Value} (h : But g B w w1) (hg : w1.grownBy w2 v.ownBlock) (hv : w1.ownsRow base T k v n xs) (hb : B ≤ base) (hB : base ≤ w1.heap.size) : But g B w w2 :=
  h.trans (But.of_below ((grown_below hg hv hB).mono hb))
theorem appW_step (w w1 : World) (g bx B : Nat) (s : RS) (x : Except Er Nat) (ws : List ByteArray) (t : ByteArray) (hx : Rx w1 g s x) (hrow : RowW w1 B s.W ws) (hb : But g B w w1) (hk : KT 3 w w1) (hbx : BoxR w1 bx g) (hB : B ≤ w1.heap.size) (hgB : g < B) (hn : ws.length ≤ 4194304) :
    ∃ v' w', (Builtin.append_ #[22, 22] 22 #[s.W, .slice (some ⟨w1.heap.size, 0, none⟩) 1 1]).run Tryz.prog (w1.alloc (.cells #[.string t] 9)) = .ok v' w' ∧ AppW w g bx B s x (ws ++ [t]) v' w' := by
  have hbe := box_below w1 (.cells #[.string t] 9)
  have hrow2 : RowW (w1.alloc (.cells #[.string t] 9)) B s.W ws := own_kt hrow (KT.of_below hbe)
  obtain ⟨v', w', h1, h2, h3⟩ := app_word _ B s.W ws t w1.heap.size 1 hrow2 (heap_alloc_new _ _) (Nat.le_trans hB hbe.size) hn
  have g1 := fun T (hT : T ≠ 9) => grown_kt (T := T) (T2 := 9) (k := 1) (xs := cellsW ws) h3 hrow2 hT
  have g2 := hb.alloc hB (.cells #[.string t] 9)
  have g3 := g2.grow (T := 9) (k := 1) (xs := cellsW ws) h3 hrow2 (Nat.le_refl _) (Nat.le_trans hB hbe.size)
  have g4 := own_form (T := 9) (k := 1) (xs := cellsW (ws ++ [t])) h2 (by simp)
  exact ⟨v', w', h1, (hx.below hbe).kt (g1 _ (by decide)) (g1 _ (by decide)), h2, g3, hk.trans ((KT.of_below hbe).trans (g1 _ (by decide))), (hbx.kt (KT.of_below hbe)).kt (g1 _ (by decide)), g4⟩
set_option maxHeartbeats 4000000 in
theorem wordsC_any (g bx B q : Nat) (s : RS) (l : List UInt8) (ws : List ByteArray) (w : World) (hbx : BoxR w bx g) (hr : Rx w g s (.ok q)) (hrow : RowW w B s.W ws) (hF : Fl w s l) (hw : ∃ w0 : World, Below w0.heap.size w0 w ∧ Oc.BS w0 s.a l ∧ w0.heap.size ≤ g) (hB : B ≤ w.heap.size) (hgB : g < B) (hn : ws.length ≤ 4194304) :
    Calls Tryz.prog 87 #[.pointer (some ⟨bx, 0, none⟩)] w fun e w' => e = .returned (.tuple #[]) ∧ CloP w g bx B w' ∧ ∃ t v x', StepOf (wordP l q) t x' ∧ Rx w' g { s with W := v } x' ∧ RowW w' B v (ws ++ [t]) := by
  have hd : Below w.heap.size w w.drew := (Below.refl _ _).drew
  have hW := word6_any g { s with p := q, no := none } l w.drew (RB.below hr hd (RB.lt hr)) rfl ⟨hF.n, hF.le, hF.lim, hF.at'.below hd⟩ (by obtain ⟨w0, k1, k2, k3⟩ := hw; exact ⟨w0, k1.trans (hd.mono k1.size), k2, k3⟩)
  have c0 := hbx.cell
  have c3 := RB.c3 hr
  have hne : bx ≠ g := by
    rintro rfl
    have h1 := hbx
    unfold BoxR at h1
    have h2 := hr
    unfold Rx RB at h2
    rw [h1] at h2
    simp at h2
  have HR : Hid (Rx w g s (.ok q)) := hr
  have HRow : Hid (RowW w B s.W ws) := hrow
  have HBx : Hid (BoxR w bx g) := hbx
  simp only at c3
  clear hr hrow hbx hF hw
  go_enter Tryz.func87, Tryz.ntmps87
  go_wp2_with fail
  refine wp_region_heldtail 10 (fun w' => w'.cell? ⟨bx, 0, none⟩ = some (.pointer (some ⟨g, 0, none⟩)) ∧ w'.cell? ⟨g, 3, none⟩ = some s.W) (by kernel_rfl) (by kernel_rfl) ?_
  have hS : (w.drew.cell? ⟨bx, 0, none⟩ = some (.pointer (some ⟨g, 0, none⟩)) ∧ w.drew.cell? ⟨g, 3, none⟩ = some s.W) := ⟨by simpa using c0, by simpa using c3⟩
  refine HL_take (i := 0) (.pointer (some ⟨g, 0, none⟩)) (by kernel_rfl) rfl (by omega) (by kernel_rfl) (by kernel_rfl) (by kernel_rfl) (fun _ _ _ h => h) (.inl ⟨by kernel_rfl, fun w' hw' => by obtain ⟨u0, u3⟩ := hw'; go_simp⟩) hS ?_
  simp only [Act.put, List.setIfInBounds_toArray, List.set_cons_zero, List.set_cons_succ]
  refine HL_take (i := 1) (.pointer (some ⟨g, 0, none⟩)) (by kernel_rfl) rfl (by omega) (by kernel_rfl) (by kernel_rfl) (by kernel_rfl) (fun _ _ _ h => h) (.inl ⟨by kernel_rfl, fun w' hw' => by obtain ⟨u0, u3⟩ := hw'; go_simp⟩) hS ?_
  simp only [Act.put, List.setIfInBounds_toArray, List.set_cons_zero, List.set_cons_succ]
  refine HL_take (i := 2) (.pointer (some ⟨g, 0, none⟩)) (by kernel_rfl) rfl (by omega) (by kernel_rfl) (by kernel_rfl) (by kernel_rfl) (fun _ _ _ h => h) (.inl ⟨by kernel_rfl, fun w' hw' => by obtain ⟨u0, u3⟩ := hw'; go_simp⟩) hS ?_
  simp only [Act.put, List.setIfInBounds_toArray, List.set_cons_zero, List.set_cons_succ]
  refine HL_take (i := 3) (.pointer (some ⟨g, 3, none⟩)) (by kernel_rfl) rfl (by omega) (by kernel_rfl) (by kernel_rfl) (by kernel_rfl) (fun _ _ _ h => h) (.inl ⟨by kernel_rfl, fun w' hw' => by obtain ⟨u0, u3⟩ := hw'; go_simp⟩) hS ?_
  simp only [Act.put, List.setIfInBounds_toArray, List.set_cons_zero, List.set_cons_succ]
  refine HL_take (i := 4) (.pointer (some ⟨g, 3, none⟩)) (by kernel_rfl) rfl (by omega) (by kernel_rfl) (by kernel_rfl) (by kernel_rfl) (fun _ _ _ h => h) (.inl ⟨by kernel_rfl, fun w' hw' => by obtain ⟨u0, u3⟩ := hw'; go_simp⟩) hS ?_
  simp only [Act.put, List.setIfInBounds_toArray, List.set_cons_zero, List.set_cons_succ]
  refine HL_take (i := 5) (s.W) (by kernel_rfl) rfl (by omega) (by kernel_rfl) (by kernel_rfl) (by kernel_rfl) (fun _ _ _ h => h) (.inl ⟨by kernel_rfl, fun w' hw' => by obtain ⟨u0, u3⟩ := hw'; go_simp⟩) hS ?_
  simp only [Act.put, List.setIfInBounds_toArray, List.set_cons_zero, List.set_cons_succ]
  refine HL_take (i := 6) (.pointer (some ⟨g, 0, none⟩)) (by kernel_rfl) rfl (by omega) (by kernel_rfl) (by kernel_rfl) (by kernel_rfl) (fun _ _ _ h => h) (.inl ⟨by kernel_rfl, fun w' hw' => by obtain ⟨u0, u3⟩ := hw'; go_simp⟩) hS ?_
  simp only [Act.put, List.setIfInBounds_toArray, List.set_cons_zero, List.set_cons_succ]
  refine HL_one (i := 7) rfl (by omega) (by kernel_rfl) rfl ?_
  refine wp_enter (f := 88) (args := #[.pointer (some ⟨g, 0, none⟩)]) (by simp [execOp, resolve]; rfl) ?_
  refine hW.mono ?_
  rintro e w1 ⟨hb1, t, rfl, hq1⟩
  obtain ⟨x', hst, hx1⟩ := hq1.step rfl
  have hB1 : But g w.heap.size w w1 := (But.of_below hd).trans (hb1.mono hd.size)
  have hbx1 : BoxR w1 bx g := (hB1.2.2.2.2 bx (Array.getElem?_eq_some_iff.1 HBx.out).1 hne).trans HBx.out
  have hx1' : Rx w1 g s x' := by
    cases x' with
    | ok q => exact hx1
    | error e => exact hx1
  have hRB : RB w g { s with p := q, no := none } := HR.out
  have kW : KT 9 w w1 := hB1.kt hRB (by decide)
  have kI : KT 3 w w1 := hB1.kt hRB (by decide)
  have hrow1 : RowW w1 B s.W ws := HRow.out.kt kW
  have HAPP := appW_step w w1 g bx B s x' ws t hx1' hrow1 (hB1.mono hB) kI hbx1 (Nat.le_trans hB hB1.size) hgB hn
  obtain ⟨p1, no1, e1⟩ := hx1'.form
  have d3 : w1.cell? ⟨g, 3, none⟩ = some s.W := e1.c3
  have d0 := hbx1.cell
  clear hq1 hx1 e1
  refine ⟨_, rfl, ⟨d0, d3⟩, ?_⟩
  simp only [Act.put, List.setIfInBounds_toArray, List.set_cons_zero, List.set_cons_succ]
  refine HL_one (i := 8) rfl (by omega) (by kernel_rfl) rfl ?_
  refine wp_value (v := .slice (some ⟨w1.heap.size, 0, none⟩) 1 1) (w' := w1.alloc (.cells #[.string t] 9)) (by go_simp) ?_
  refine ⟨⟨cell_new d0 _, cell_new d3 _⟩, ?_⟩
  simp only [Act.put, List.setIfInBounds_toArray, List.set_cons_zero, List.set_cons_succ]
  refine HL_one (i := 9) rfl (by omega) (by kernel_rfl) rfl ?_
  refine wp_append (.tmp 6) (.tmp 9) 22 22 (by kernel_rfl) s.W (.slice (some ⟨w1.heap.size, 0, none⟩) 1 1) (by go_simp) (by go_simp) (AppW w g bx B s x' (ws ++ [t])) (by exact HAPP) ?_
  rintro v5 w5 ⟨r1, r2, r3, r4, r5, gg, cp, rfl⟩
  rw [List.length_append, List.length_singleton] at r2
  obtain ⟨p5, no5, e5⟩ := r1.form
  have f3 := e5.free 3
  have e3 : w5.cell? ⟨g, 3, none⟩ = some s.W := e5.c3
  refine ⟨⟨r5.cell, e3⟩, ?_⟩
  simp only [Act.put, List.setIfInBounds_toArray, List.set_cons_zero, List.set_cons_succ]
  refine ⟨by kernel_rfl, ?_⟩
  simp only [List.drop_succ_cons, List.drop_zero]
  go_wp2_with fail
  go_end0
  refine ⟨rfl, ⟨r3.setCell 3 _, r4.trans (set_kt (T := 3) e5 (by decide) 3 _), (Below.heap_setCell _ _ _ bx (fun e => hne e)).trans r5⟩, t, _, x', hst, r1.setW3 _, RowW.kt r2 (set_kt (T := 9) e5 (by decide) 3 _)⟩
end Go.Proofs.YtplmmamebfpcjaaGreatDoor
end
section
/- The closure that reads one merge: its contract. -/
namespace Go.Proofs.YtplmmamebfpcjaaGreatDoor
open Go.RowKit Go.Sort Go.Joins
set_option linter.unusedVariables false
set_option maxRecDepth 100000
set_option linter.unusedSimpArgs false
theorem mgP_step (l : List UInt8) (q : Nat) : StepOf (mgP l q) ⟨((numX l 0 2147483647 24 (.ok q)).1 : Nat), ((numX l 0 2147483647 24 (numX l 0 2147483647 24 (.ok q)).2).1 : Nat), ((numX l 0 2147483647 24 (numX l 0 2147483647 24 (numX l 0 2147483647 24 (.ok q)).2).2).1 : Nat)⟩ (numX l 0 2147483647 24 (numX l 0 2147483647 24 (numX l 0 2147483647 24 (.ok q)).2).2).2 := by
  unfold mgP idP
  cases h1 : numP l 0 2147483647 24 q with
  | error e => rw [numX_no h1, numX_error, numX_error]; rfl
  | ok k1 =>
    obtain ⟨n1, q1⟩ := k1
    rw [numX_ok h1]
    simp only [andP]
    cases h2 : numP l 0 2147483647 24 q1 with
    | error e => rw [numX_no h2, numX_error]; rfl
    | ok k2 =>
      obtain ⟨n2, q2⟩ := k2
      rw [numX_ok h2]
      simp only [andP]
      cases h3 : numP l 0 2147483647 24 q2 with
      | error e => rw [numX_no h3]; rfl
      | ok k3 =>
        obtain ⟨n3, q3⟩ := k3
        rw [numX_ok h3]
        exact ⟨rfl, rfl⟩
theorem Rx.setM4 {w : World} {g : Nat} {s : RS} {x : Except Er Nat} (h : Rx w g s x) (v : Value) : Rx (w.setCell ⟨g, 4, none⟩ v) g { s with M := v } x := by
  cases x with
  | ok q => exact RB.setM h v
  | error e => obtain ⟨p, N, k1, k3, k4⟩ := h; exact ⟨p, N, k1.setM v, k3, (Below.heap_setCell _ _ _ N (by show N ≠ g; omega)).trans k4⟩
def AppM (w : World) (g bx B : Nat) (s : RS) (x : Except Er Nat) (l : List Mg) (v : Value) (w' : World) : Prop := Rx w' g s x ∧ RowM w' B v l ∧ But g B w w' ∧ KT 3 w w' ∧ BoxR w' bx g ∧ ∃ gg cap, v = .slice (some ⟨gg, 0, none⟩) l.length cap
theorem appM_step (w w1 : World) (g bx B : Nat) (s : RS) (x : Except Er Nat) (ms : List Mg) (t : Mg) (hx : Rx w1 g s x) (hrow : RowM w1 B s.M ms) (hb : But g B w w1) (hk : KT 3 w w1) (hbx : BoxR w1 bx g) (hB : B ≤ w1.heap.size) (hgB : g < B) (hn : ms.length ≤ 4194304) :
    ∃ v' w', (Builtin.append_ #[23, 23] 23 #[s.M, .slice (some ⟨w1.heap.size, 0, none⟩) 1 1]).run Tryz.prog (w1.alloc (.cells #[.int .i64 t.l, .int .i64 t.r, .int .i64 t.i] 75)) = .ok v' w' ∧ AppM w g bx B s x (ms ++ [t]) v' w' := by
  have hbe := box_below w1 (.cells #[.int .i64 t.l, .int .i64 t.r, .int .i64 t.i] 75)
  have hrow2 : RowM (w1.alloc (.cells #[.int .i64 t.l, .int .i64 t.r, .int .i64 t.i] 75)) B s.M ms := hrow.kt (KT.of_below hbe)
  obtain ⟨v', w', h1, h2, h3⟩ := app_merge _ B s.M ms t w1.heap.size 1 hrow2 (heap_alloc_new _ _) (Nat.le_trans hB hbe.size) hn
  have g1 := fun T (hT : T ≠ 75) => grown_kt (T := T) (T2 := 75) (k := 3) (xs := cellsM ms) h3 hrow2 hT
  have g2 := hb.alloc hB (.cells #[.int .i64 t.l, .int .i64 t.r, .int .i64 t.i] 75)
  have g3 := g2.grow (T := 75) (k := 3) (xs := cellsM ms) h3 hrow2 (Nat.le_refl _) (Nat.le_trans hB hbe.size)
  have g4 := own_form (T := 75) (k := 3) (xs := cellsM (ms ++ [t])) h2 (by simp)
  exact ⟨v', w', h1, (hx.below hbe).kt (g1 _ (by decide)) (g1 _ (by decide)), h2, g3, hk.trans ((KT.of_below hbe).trans (g1 _ (by decide))), (hbx.kt (KT.of_below hbe)).kt (g1 _ (by decide)), g4⟩
set_option maxHeartbeats 4000000 in
theorem mergesC_any (g bx B q : Nat) (s : RS) (l : List UInt8) (ms : List Mg) (w : World) (hbx : BoxR w bx g) (hr : Rx w g s (.ok q)) (hrow : RowM w B s.M ms) (hF : Fl w s l) (hw : ∃ w0 : World, Below w0.heap.size w0 w ∧ Oc.BS w0 s.a l ∧ w0.heap.size ≤ g) (hB : B ≤ w.heap.size) (hgB : g < B) (hn : ms.length ≤ 4194304) :
    Calls Tryz.prog 89 #[.pointer (some ⟨bx, 0, none⟩)] w fun e w' => e = .returned (.tuple #[]) ∧ CloP w g bx B w' ∧ ∃ t v x', StepOf (mgP l q) t x' ∧ Rx w' g { s with M := v } x' ∧ RowM w' B v (ms ++ [t]) := by
  have hst := mgP_step l q
  have hnd : Below w.heap.size w w.drew := (Below.refl _ _).drew
  obtain ⟨⟨n1, x1⟩, hq1⟩ : ∃ r, r = numX l 0 2147483647 24 (.ok q) := ⟨_, rfl⟩
  have HC1 := fun wx h1 h2 => id_uni g s l (.ok q) wx h1 h2
  rw [← hq1] at hst HC1
  obtain ⟨⟨n2, x2⟩, hq2⟩ : ∃ r, r = numX l 0 2147483647 24 x1 := ⟨_, rfl⟩
  have HC2 := fun wx h1 h2 => id_uni g s l x1 wx h1 h2
  simp only at hst
  rw [← hq2] at hst HC2
  obtain ⟨⟨n3, x3⟩, hq3⟩ : ∃ r, r = numX l 0 2147483647 24 x2 := ⟨_, rfl⟩
  have HC3 := fun wx h1 h2 => id_uni g s l x2 wx h1 h2
  simp only at hst
  rw [← hq3] at hst HC3
  simp only at hst HC1 HC2 HC3
  have c0 := hbx.cell
  have c4 := RB.c4 hr
  have hne : bx ≠ g := by
    rintro rfl
    have h1 := hbx
    unfold BoxR at h1
    have h2 := hr
    unfold Rx RB at h2
    rw [h1] at h2
    simp at h2
  have HRow : Hid (RowM w B s.M ms) := hrow
  have HBx : Hid (BoxR w bx g) := hbx
  have HFn : Hid (s.n = l.length) := hF.n
  have hFle := hF.le
  have hFlim := hF.lim
  have HFl : Hid (∀ wx, But g w.heap.size w wx → Oc.BS wx s.a l) := fun wx hwx => by
    obtain ⟨w0, k1, k2, k3⟩ := hw
    exact k2.below (k1.trans (hwx.below (B' := w0.heap.size) k1.size k3))
  have hx0 : Rx w.drew g s (.ok q) := Rx.below hr hnd
  have hF0 : Fl w.drew s l := ⟨hF.n, hF.le, hF.lim, hF.at'.below hnd⟩
  have hB0 : But g w.heap.size w w.drew := But.of_below hnd
  have hRB : RB w g { s with p := q, no := none } := hr
  simp only at c4
  clear hr hrow hbx hF hw hq1 hq2 hq3
  go_enter Tryz.func89, Tryz.ntmps89
  go_wp2_with fail
  refine wp_region_heldtail 15 (fun w' => w'.cell? ⟨bx, 0, none⟩ = some (.pointer (some ⟨g, 0, none⟩)) ∧ w'.cell? ⟨g, 4, none⟩ = some s.M) (by kernel_rfl) (by kernel_rfl) ?_
  have hS : (w.drew.cell? ⟨bx, 0, none⟩ = some (.pointer (some ⟨g, 0, none⟩)) ∧ w.drew.cell? ⟨g, 4, none⟩ = some s.M) := ⟨by simpa using c0, by simpa using c4⟩
  refine HL_take (i := 0) (.pointer (some ⟨g, 0, none⟩)) (by kernel_rfl) rfl (by omega) (by kernel_rfl) (by kernel_rfl) (by kernel_rfl) (fun _ _ _ h => h) (.inl ⟨by kernel_rfl, fun w' hw' => by obtain ⟨u0, u4⟩ := hw'; go_simp⟩) hS ?_
  simp only [Act.put, List.setIfInBounds_toArray, List.set_cons_zero, List.set_cons_succ]
  refine HL_take (i := 1) (.pointer (some ⟨g, 0, none⟩)) (by kernel_rfl) rfl (by omega) (by kernel_rfl) (by kernel_rfl) (by kernel_rfl) (fun _ _ _ h => h) (.inl ⟨by kernel_rfl, fun w' hw' => by obtain ⟨u0, u4⟩ := hw'; go_simp⟩) hS ?_
  simp only [Act.put, List.setIfInBounds_toArray, List.set_cons_zero, List.set_cons_succ]
  refine HL_take (i := 2) (.pointer (some ⟨g, 0, none⟩)) (by kernel_rfl) rfl (by omega) (by kernel_rfl) (by kernel_rfl) (by kernel_rfl) (fun _ _ _ h => h) (.inl ⟨by kernel_rfl, fun w' hw' => by obtain ⟨u0, u4⟩ := hw'; go_simp⟩) hS ?_
  simp only [Act.put, List.setIfInBounds_toArray, List.set_cons_zero, List.set_cons_succ]
  refine HL_take (i := 3) (.pointer (some ⟨g, 3, none⟩)) (by kernel_rfl) rfl (by omega) (by kernel_rfl) (by kernel_rfl) (by kernel_rfl) (fun _ _ _ h => h) (.inl ⟨by kernel_rfl, fun w' hw' => by obtain ⟨u0, u4⟩ := hw'; go_simp⟩) hS ?_
  simp only [Act.put, List.setIfInBounds_toArray, List.set_cons_zero, List.set_cons_succ]
  refine HL_take (i := 4) (.pointer (some ⟨g, 4, none⟩)) (by kernel_rfl) rfl (by omega) (by kernel_rfl) (by kernel_rfl) (by kernel_rfl) (fun _ _ _ h => h) (.inl ⟨by kernel_rfl, fun w' hw' => by obtain ⟨u0, u4⟩ := hw'; go_simp⟩) hS ?_
  simp only [Act.put, List.setIfInBounds_toArray, List.set_cons_zero, List.set_cons_succ]
  refine HL_take (i := 5) (s.M) (by kernel_rfl) rfl (by omega) (by kernel_rfl) (by kernel_rfl) (by kernel_rfl) (fun _ _ _ h => h) (.inl ⟨by kernel_rfl, fun w' hw' => by obtain ⟨u0, u4⟩ := hw'; go_simp⟩) hS ?_
  simp only [Act.put, List.setIfInBounds_toArray, List.set_cons_zero, List.set_cons_succ]
  refine HL_take (i := 6) (.pointer (some ⟨g, 0, none⟩)) (by kernel_rfl) rfl (by omega) (by kernel_rfl) (by kernel_rfl) (by kernel_rfl) (fun _ _ _ h => h) (.inl ⟨by kernel_rfl, fun w' hw' => by obtain ⟨u0, u4⟩ := hw'; go_simp⟩) hS ?_
  simp only [Act.put, List.setIfInBounds_toArray, List.set_cons_zero, List.set_cons_succ]
  refine HL_take (i := 8) (.pointer (some ⟨g, 0, none⟩)) (by kernel_rfl) rfl (by omega) (by kernel_rfl) (by kernel_rfl) (by kernel_rfl) (fun _ _ _ h => h) (.inl ⟨by kernel_rfl, fun w' hw' => by obtain ⟨u0, u4⟩ := hw'; go_simp⟩) hS ?_
  simp only [Act.put, List.setIfInBounds_toArray, List.set_cons_zero, List.set_cons_succ]
  refine HL_take (i := 10) (.pointer (some ⟨g, 0, none⟩)) (by kernel_rfl) rfl (by omega) (by kernel_rfl) (by kernel_rfl) (by kernel_rfl) (fun _ _ _ h => h) (.inl ⟨by kernel_rfl, fun w' hw' => by obtain ⟨u0, u4⟩ := hw'; go_simp⟩) hS ?_
  simp only [Act.put, List.setIfInBounds_toArray, List.set_cons_zero, List.set_cons_succ]
  refine HL_one (i := 7) rfl (by omega) (by kernel_rfl) rfl ?_
  refine wp_enter (f := 90) (args := #[.pointer (some ⟨g, 0, none⟩)]) (by simp [execOp, resolve]; rfl) ?_
  refine (HC1 w.drew hx0 hF0).mono ?_
  rintro e w1 ⟨rfl, hx1, hb1⟩
  have hB1 : But g w.heap.size w w1 := hB0.trans (hb1.mono hB0.size)
  have hbx1 : BoxR w1 bx g := (hB1.2.2.2.2 bx (Array.getElem?_eq_some_iff.1 HBx.out).1 hne).trans HBx.out
  have hF1 : Fl w1 s l := ⟨HFn.out, hFle, hFlim, HFl.out w1 hB1⟩
  have d1 : w1.cell? ⟨g, 4, none⟩ = some s.M := hx1.cM
  refine ⟨_, rfl, ⟨hbx1.cell, d1⟩, ?_⟩
  simp only [Act.put, List.setIfInBounds_toArray, List.set_cons_zero, List.set_cons_succ]
  refine HL_one (i := 9) rfl (by omega) (by kernel_rfl) rfl ?_
  refine wp_enter (f := 90) (args := #[.pointer (some ⟨g, 0, none⟩)]) (by simp [execOp, resolve]; rfl) ?_
  refine (HC2 w1 hx1 hF1).mono ?_
  rintro e w2 ⟨rfl, hx2, hb2⟩
  have hB2 : But g w.heap.size w w2 := hB1.trans (hb2.mono hB1.size)
  have hbx2 : BoxR w2 bx g := (hB2.2.2.2.2 bx (Array.getElem?_eq_some_iff.1 HBx.out).1 hne).trans HBx.out
  have hF2 : Fl w2 s l := ⟨HFn.out, hFle, hFlim, HFl.out w2 hB2⟩
  have d2 : w2.cell? ⟨g, 4, none⟩ = some s.M := hx2.cM
  refine ⟨_, rfl, ⟨hbx2.cell, d2⟩, ?_⟩
  simp only [Act.put, List.setIfInBounds_toArray, List.set_cons_zero, List.set_cons_succ]
  refine HL_one (i := 11) rfl (by omega) (by kernel_rfl) rfl ?_
  refine wp_enter (f := 90) (args := #[.pointer (some ⟨g, 0, none⟩)]) (by simp [execOp, resolve]; rfl) ?_
  refine (HC3 w2 hx2 hF2).mono ?_
  rintro e w3 ⟨rfl, hx3, hb3⟩
  have hB3 : But g w.heap.size w w3 := hB2.trans (hb3.mono hB2.size)
  have hbx3 : BoxR w3 bx g := (hB3.2.2.2.2 bx (Array.getElem?_eq_some_iff.1 HBx.out).1 hne).trans HBx.out
  have hF3 : Fl w3 s l := ⟨HFn.out, hFle, hFlim, HFl.out w3 hB3⟩
  have d3 : w3.cell? ⟨g, 4, none⟩ = some s.M := hx3.cM
  refine ⟨_, rfl, ⟨hbx3.cell, d3⟩, ?_⟩
  simp only [Act.put, List.setIfInBounds_toArray, List.set_cons_zero, List.set_cons_succ]
  have HAPP := appM_step w w3 g bx B s x3 ms (⟨(n1 : Nat), (n2 : Nat), (n3 : Nat)⟩ : Mg) hx3 (HRow.out.kt (hB3.kt hRB (by decide))) (hB3.mono hB) (hB3.kt hRB (by decide)) hbx3 (Nat.le_trans hB hB3.size) hgB hn
  refine HL_one (i := 12) rfl (by omega) (by kernel_rfl) rfl ?_
  refine wp_value (v := .agg #[.int .i64 (n1 : Nat), .int .i64 (n2 : Nat), .int .i64 (n3 : Nat)]) (w' := w3) (by go_simp) ?_
  refine ⟨⟨hbx3.cell, d3⟩, ?_⟩
  simp only [Act.put, List.setIfInBounds_toArray, List.set_cons_zero, List.set_cons_succ]
  refine HL_one (i := 13) rfl (by omega) (by kernel_rfl) rfl ?_
  refine wp_value (v := .slice (some ⟨w3.heap.size, 0, none⟩) 1 1) (w' := w3.alloc (.cells #[.int .i64 (n1 : Nat), .int .i64 (n2 : Nat), .int .i64 (n3 : Nat)] 75)) (by go_simp) ?_
  refine ⟨⟨cell_new hbx3.cell _, cell_new d3 _⟩, ?_⟩
  simp only [Act.put, List.setIfInBounds_toArray, List.set_cons_zero, List.set_cons_succ]
  refine HL_one (i := 14) rfl (by omega) (by kernel_rfl) rfl ?_
  refine wp_append (.tmp 6) (.tmp 14) 23 23 (by kernel_rfl) (s.M) (.slice (some ⟨w3.heap.size, 0, none⟩) 1 1) (by go_simp) (by go_simp) (AppM w g bx B s x3 (ms ++ [(⟨(n1 : Nat), (n2 : Nat), (n3 : Nat)⟩ : Mg)])) (by exact HAPP) ?_
  rintro v5 w5 ⟨r1, r2, r3, r4, r5, gg, cp, rfl⟩
  rw [List.length_append, List.length_singleton] at r2
  have f3 := r1.free 4
  have e3 : w5.cell? ⟨g, 4, none⟩ = some s.M := r1.cM
  refine ⟨⟨r5.cell, e3⟩, ?_⟩
  simp only [Act.put, List.setIfInBounds_toArray, List.set_cons_zero, List.set_cons_succ]
  refine ⟨by kernel_rfl, ?_⟩
  simp only [List.drop_succ_cons, List.drop_zero]
  go_wp2_with fail
  go_end0
  refine ⟨rfl, ⟨r3.setCell 4 _, r4.trans (r1.setkt (T := 3) (by decide) 4 _), (Below.heap_setCell _ _ _ bx (fun e => hne e)).trans r5⟩, (⟨(n1 : Nat), (n2 : Nat), (n3 : Nat)⟩ : Mg), _, x3, hst, r1.setM4 _, RowM.kt r2 (r1.setkt (T := 75) (by decide) 4 _)⟩
end Go.Proofs.YtplmmamebfpcjaaGreatDoor
end
section
/- The closure that reads one span: its contract. -/
namespace Go.Proofs.YtplmmamebfpcjaaGreatDoor
open Go.RowKit Go.Sort Go.Joins
set_option linter.unusedVariables false
set_option maxRecDepth 100000
set_option linter.unusedSimpArgs false
theorem spP_step (l : List UInt8) (q : Nat) : StepOf (spP l q) ⟨((numX l 0 1114111 14 (.ok q)).1 : Nat), ((numX l 0 1114111 14 (numX l 0 1114111 14 (.ok q)).2).1 : Nat)⟩ (numX l 0 1114111 14 (numX l 0 1114111 14 (.ok q)).2).2 := by
  unfold spP endP
  cases h1 : numP l 0 1114111 14 q with
  | error e => rw [numX_no h1, numX_error]; rfl
  | ok k1 =>
    obtain ⟨n1, q1⟩ := k1
    rw [numX_ok h1]
    simp only [andP]
    cases h2 : numP l 0 1114111 14 q1 with
    | error e => rw [numX_no h2]; rfl
    | ok k2 =>
      obtain ⟨n2, q2⟩ := k2
      rw [numX_ok h2]
      exact ⟨rfl, rfl⟩
/-- A variable that holds a list of spans. -/
def BoxL (w : World) (b : Nat) (v : Value) : Prop := w.heap[b]? = some (.cells #[v] 24 (0, 0))
theorem BoxL.cell {w : World} {b : Nat} {v : Value} (h : BoxL w b v) : w.cell? ⟨b, 0, none⟩ = some v := (cell_of_block h 0).trans rfl
theorem BoxL.free {w : World} {b : Nat} {v : Value} (h : BoxL w b v) : w.frozen? ⟨b, 0, none⟩ = false := unfrozen_of_block h 0
theorem BoxL.kt {w w' : World} {b : Nat} {v : Value} (h : BoxL w b v) (hk : KT 24 w w') : BoxL w' b v := hk _ _ _ h
theorem BoxL.set {w : World} {b : Nat} {v : Value} (h : BoxL w b v) (u : Value) : BoxL (w.setCell ⟨b, 0, none⟩ u) b u := by
  have := block_setCell h (i := 0) u
  unfold BoxL; rw [this]; rfl
theorem set_kt2 {w : World} {b : Nat} {T T2 : TypeId} {cur : Array Value} {z : Nat × Nat} (h : w.heap[b]? = some (.cells cur T2 z)) (hT : T ≠ T2) (o : Nat) (v : Value) : KT T w (w.setCell ⟨b, o, none⟩ v) := by
  intro i c z' hi
  refine (Below.heap_setCell _ _ _ i ?_).trans hi
  rintro rfl
  rw [h] at hi
  simp at hi
  exact hT hi.2.1.symm
def AppS (w : World) (g bx B b6 : Nat) (v0 : Value) (s : RS) (x : Except Er Nat) (l : List Sp) (v : Value) (w' : World) : Prop := Rx w' g s x ∧ RowS w' B v l ∧ But g B w w' ∧ KT 3 w w' ∧ BoxR w' bx g ∧ BoxL w' b6 v0 ∧ ∃ gg cap, v = .slice (some ⟨gg, 0, none⟩) l.length cap
theorem appS_step (w w1 : World) (g bx B b6 : Nat) (v0 : Value) (s : RS) (x : Except Er Nat) (sps : List Sp) (t : Sp) (hx : Rx w1 g s x) (hrow : RowS w1 B v0 sps) (hb : But g B w w1) (hk : KT 3 w w1) (hbx : BoxR w1 bx g) (hbl : BoxL w1 b6 v0) (hB : B ≤ w1.heap.size) (hgB : g < B) (hn : sps.length ≤ 4194304) :
    ∃ v' w', (Builtin.append_ #[24, 24] 24 #[v0, .slice (some ⟨w1.heap.size, 0, none⟩) 1 1]).run Tryz.prog (w1.alloc (.cells #[.int .i32 t.lo, .int .i32 t.hi] 78)) = .ok v' w' ∧ AppS w g bx B b6 v0 s x (sps ++ [t]) v' w' := by
  have hbe := box_below w1 (.cells #[.int .i32 t.lo, .int .i32 t.hi] 78)
  have hrow2 : RowS (w1.alloc (.cells #[.int .i32 t.lo, .int .i32 t.hi] 78)) B v0 sps := hrow.kt (KT.of_below hbe)
  obtain ⟨v', w', h1, h2, h3⟩ := app_span _ B v0 sps t w1.heap.size 1 hrow2 (heap_alloc_new _ _) (Nat.le_trans hB hbe.size) hn
  have g1 := fun T (hT : T ≠ 78) => grown_kt (T := T) (T2 := 78) (k := 2) (xs := cellsS sps) h3 hrow2 hT
  have g2 := hb.alloc hB (.cells #[.int .i32 t.lo, .int .i32 t.hi] 78)
  have g3 := g2.grow (T := 78) (k := 2) (xs := cellsS sps) h3 hrow2 (Nat.le_refl _) (Nat.le_trans hB hbe.size)
  have g4 := own_form (T := 78) (k := 2) (xs := cellsS (sps ++ [t])) h2 (by simp)
  exact ⟨v', w', h1, (hx.below hbe).kt (g1 _ (by decide)) (g1 _ (by decide)), h2, g3, hk.trans ((KT.of_below hbe).trans (g1 _ (by decide))), (hbx.kt (KT.of_below hbe)).kt (g1 _ (by decide)), (hbl.kt (KT.of_below hbe)).kt (g1 _ (by decide)), g4⟩
set_option maxHeartbeats 4000000 in
theorem spansC_any (g bx B b6 q : Nat) (v0 : Value) (s : RS) (l : List UInt8) (sps : List Sp) (w : World) (hbx : BoxR w bx g) (hbl : BoxL w b6 v0) (hr : Rx w g s (.ok q)) (hrow : RowS w B v0 sps) (hF : Fl w s l) (hw : ∃ w0 : World, Below w0.heap.size w0 w ∧ Oc.BS w0 s.a l ∧ w0.heap.size ≤ g) (hB : B ≤ w.heap.size) (hgB : g < B) (hb6 : B ≤ b6) (hn : sps.length ≤ 4194304) :
    Calls Tryz.prog 91 #[.pointer (some ⟨b6, 0, none⟩), .pointer (some ⟨bx, 0, none⟩)] w fun e w' => e = .returned (.tuple #[]) ∧ CloP w g bx B w' ∧ ∃ t v x', StepOf (spP l q) t x' ∧ Rx w' g s x' ∧ BoxL w' b6 v ∧ RowS w' B v (sps ++ [t]) := by
  have hst := spP_step l q
  have hnd : Below w.heap.size w w.drew := (Below.refl _ _).drew
  obtain ⟨⟨n1, x1⟩, hq1⟩ : ∃ r, r = numX l 0 1114111 14 (.ok q) := ⟨_, rfl⟩
  have HC1 := fun wx h1 h2 => end_uni g s l (.ok q) wx h1 h2
  rw [← hq1] at hst HC1
  obtain ⟨⟨n2, x2⟩, hq2⟩ : ∃ r, r = numX l 0 1114111 14 x1 := ⟨_, rfl⟩
  have HC2 := fun wx h1 h2 => end_uni g s l x1 wx h1 h2
  simp only at hst
  rw [← hq2] at hst HC2
  simp only at hst HC1 HC2
  have c0 := hbx.cell
  have c4 := hbl.cell
  have HBl : Hid (BoxL w b6 v0) := hbl
  have hne : bx ≠ g := by
    rintro rfl
    have h1 := hbx
    unfold BoxR at h1
    have h2 := hr
    unfold Rx RB at h2
    rw [h1] at h2
    simp at h2
  have hne6 : bx ≠ b6 := by
    rintro rfl
    have h1 := hbx
    unfold BoxR at h1
    have h2 := hbl
    unfold BoxL at h2
    rw [h1] at h2
    simp at h2
  clear hbl
  have HRow : Hid (RowS w B v0 sps) := hrow
  have HBx : Hid (BoxR w bx g) := hbx
  have HFn : Hid (s.n = l.length) := hF.n
  have hFle := hF.le
  have hFlim := hF.lim
  have HFl : Hid (∀ wx, But g w.heap.size w wx → Oc.BS wx s.a l) := fun wx hwx => by
    obtain ⟨w0, k1, k2, k3⟩ := hw
    exact k2.below (k1.trans (hwx.below (B' := w0.heap.size) k1.size k3))
  have hx0 : Rx w.drew g s (.ok q) := Rx.below hr hnd
  have hF0 : Fl w.drew s l := ⟨hF.n, hF.le, hF.lim, hF.at'.below hnd⟩
  have hB0 : But g w.heap.size w w.drew := But.of_below hnd
  have hRB : RB w g { s with p := q, no := none } := hr
  skip
  clear hr hrow hbx hF hw hq1 hq2
  go_enter Tryz.func91, Tryz.ntmps91
  go_wp2_with fail
  refine wp_region_heldtail 8 (fun w' => w'.cell? ⟨bx, 0, none⟩ = some (.pointer (some ⟨g, 0, none⟩)) ∧ w'.cell? ⟨b6, 0, none⟩ = some v0) (by kernel_rfl) (by kernel_rfl) ?_
  have hS : (w.drew.cell? ⟨bx, 0, none⟩ = some (.pointer (some ⟨g, 0, none⟩)) ∧ w.drew.cell? ⟨b6, 0, none⟩ = some v0) := ⟨by simpa using c0, by simpa using c4⟩
  refine HL_take (i := 0) (v0) (by kernel_rfl) rfl (by omega) (by kernel_rfl) (by kernel_rfl) (by kernel_rfl) (fun _ _ _ h => h) (.inl ⟨by kernel_rfl, fun w' hw' => by obtain ⟨u0, u4⟩ := hw'; go_simp⟩) hS ?_
  simp only [Act.put, List.setIfInBounds_toArray, List.set_cons_zero, List.set_cons_succ]
  refine HL_take (i := 1) (.pointer (some ⟨g, 0, none⟩)) (by kernel_rfl) rfl (by omega) (by kernel_rfl) (by kernel_rfl) (by kernel_rfl) (fun _ _ _ h => h) (.inl ⟨by kernel_rfl, fun w' hw' => by obtain ⟨u0, u4⟩ := hw'; go_simp⟩) hS ?_
  simp only [Act.put, List.setIfInBounds_toArray, List.set_cons_zero, List.set_cons_succ]
  refine HL_take (i := 3) (.pointer (some ⟨g, 0, none⟩)) (by kernel_rfl) rfl (by omega) (by kernel_rfl) (by kernel_rfl) (by kernel_rfl) (fun _ _ _ h => h) (.inl ⟨by kernel_rfl, fun w' hw' => by obtain ⟨u0, u4⟩ := hw'; go_simp⟩) hS ?_
  simp only [Act.put, List.setIfInBounds_toArray, List.set_cons_zero, List.set_cons_succ]
  refine HL_one (i := 2) rfl (by omega) (by kernel_rfl) rfl ?_
  refine wp_enter (f := 92) (args := #[.pointer (some ⟨g, 0, none⟩)]) (by simp [execOp, resolve]; rfl) ?_
  refine (HC1 w.drew hx0 hF0).mono ?_
  rintro e w1 ⟨rfl, hx1, hb1⟩
  have hB1 : But g w.heap.size w w1 := hB0.trans (hb1.mono hB0.size)
  have hbx1 : BoxR w1 bx g := (hB1.2.2.2.2 bx (Array.getElem?_eq_some_iff.1 HBx.out).1 hne).trans HBx.out
  have hF1 : Fl w1 s l := ⟨HFn.out, hFle, hFlim, HFl.out w1 hB1⟩
  have hbl1 : BoxL w1 b6 v0 := HBl.out.kt (hB1.kt hRB (by decide))
  refine ⟨_, rfl, ⟨hbx1.cell, hbl1.cell⟩, ?_⟩
  simp only [Act.put, List.setIfInBounds_toArray, List.set_cons_zero, List.set_cons_succ]
  refine HL_one (i := 4) rfl (by omega) (by kernel_rfl) rfl ?_
  refine wp_enter (f := 92) (args := #[.pointer (some ⟨g, 0, none⟩)]) (by simp [execOp, resolve]; rfl) ?_
  refine (HC2 w1 hx1 hF1).mono ?_
  rintro e w2 ⟨rfl, hx2, hb2⟩
  have hB2 : But g w.heap.size w w2 := hB1.trans (hb2.mono hB1.size)
  have hbx2 : BoxR w2 bx g := (hB2.2.2.2.2 bx (Array.getElem?_eq_some_iff.1 HBx.out).1 hne).trans HBx.out
  have hF2 : Fl w2 s l := ⟨HFn.out, hFle, hFlim, HFl.out w2 hB2⟩
  have hbl2 : BoxL w2 b6 v0 := HBl.out.kt (hB2.kt hRB (by decide))
  refine ⟨_, rfl, ⟨hbx2.cell, hbl2.cell⟩, ?_⟩
  simp only [Act.put, List.setIfInBounds_toArray, List.set_cons_zero, List.set_cons_succ]
  have HAPP := appS_step w w2 g bx B b6 v0 s x2 sps (⟨(n1 : Nat), (n2 : Nat)⟩ : Sp) hx2 (HRow.out.kt (hB2.kt hRB (by decide))) (hB2.mono hB) (hB2.kt hRB (by decide)) hbx2 hbl2 (Nat.le_trans hB hB2.size) hgB hn
  refine HL_one (i := 5) rfl (by omega) (by kernel_rfl) rfl ?_
  refine wp_value (v := .agg #[.int .i32 (n1 : Nat), .int .i32 (n2 : Nat)]) (w' := w2) (by go_simp) ?_
  refine ⟨⟨hbx2.cell, hbl2.cell⟩, ?_⟩
  simp only [Act.put, List.setIfInBounds_toArray, List.set_cons_zero, List.set_cons_succ]
  refine HL_one (i := 6) rfl (by omega) (by kernel_rfl) rfl ?_
  refine wp_value (v := .slice (some ⟨w2.heap.size, 0, none⟩) 1 1) (w' := w2.alloc (.cells #[.int .i32 (n1 : Nat), .int .i32 (n2 : Nat)] 78)) (by go_simp) ?_
  refine ⟨⟨cell_new hbx2.cell _, cell_new hbl2.cell _⟩, ?_⟩
  simp only [Act.put, List.setIfInBounds_toArray, List.set_cons_zero, List.set_cons_succ]
  refine HL_one (i := 7) rfl (by omega) (by kernel_rfl) rfl ?_
  refine wp_append (.tmp 2) (.tmp 8) 24 24 (by kernel_rfl) (v0) (.slice (some ⟨w2.heap.size, 0, none⟩) 1 1) (by go_simp) (by go_simp) (AppS w g bx B b6 v0 s x2 (sps ++ [(⟨(n1 : Nat), (n2 : Nat)⟩ : Sp)])) (by exact HAPP) ?_
  rintro v5 w5 ⟨r1, r2, r3, r4, r5, r6, gg, cp, rfl⟩
  rw [List.length_append, List.length_singleton] at r2
  have f3 := r6.free
  have e3 := r6.cell
  refine ⟨⟨r5.cell, e3⟩, ?_⟩
  simp only [Act.put, List.setIfInBounds_toArray, List.set_cons_zero, List.set_cons_succ]
  refine ⟨by kernel_rfl, ?_⟩
  simp only [List.drop_succ_cons, List.drop_zero]
  go_wp2_with fail
  go_end0
  have k6 := fun T (hT : T ≠ 24) => set_kt2 (T := T) r6 hT 0 (.slice (some ⟨gg, 0, none⟩) (sps.length + 1) cp)
  refine ⟨rfl, ⟨r3.above (p := ⟨b6, 0, none⟩) hb6 _, r4.trans (k6 _ (by decide)), (Below.heap_setCell _ _ _ bx (fun e => hne6 e)).trans r5⟩, (⟨(n1 : Nat), (n2 : Nat)⟩ : Sp), _, x2, hst, r1.kt (k6 _ (by decide)) (k6 _ (by decide)), r6.set _, RowS.kt r2 (k6 _ (by decide))⟩
end Go.Proofs.YtplmmamebfpcjaaGreatDoor
end
section
/- What a reader's list of rows is on its way. -/
namespace Go.Proofs.YtplmmamebfpcjaaGreatDoor
open Go.RowKit Go.Sort Go.Joins
set_option linter.unusedVariables false
set_option maxRecDepth 100000
theorem many_step {α : Type} {f : Nat → Except Er (α × Nat)} {k p : Nat} {rows : List (α × Nat)} {q : Nat} {t : α} {x' : Except Er Nat} (h : manyP f k p = .ok (rows, q)) (hs : StepOf (f q) t x') :
    (∃ r, x' = .ok r ∧ manyP f (k + 1) p = .ok (rows ++ [(t, q)], r)) ∨ (∃ e, x' = .error e ∧ manyP f (k + 1) p = .error e) := by
  rw [manyP_go h]
  cases hf : f q with
  | error e => rw [hf] at hs; exact .inr ⟨e, hs, rfl⟩
  | ok a =>
    obtain ⟨a, r⟩ := a
    rw [hf] at hs
    obtain ⟨rfl, h2⟩ := hs
    exact .inl ⟨r, h2, rfl⟩
/-- The same bytes, a list of words of some kind. -/
structure SameF (s s' : RS) : Prop where
  a : s'.a = s.a
  n : s'.n = s.n
  c : s'.c = s.c
  W : ∃ x m k, s'.W = .slice x m k
theorem updP_same (P : Nat → Value) (k : Nat) (u v : Value) : updP (updP P k u) k v = updP P k v := by
  funext i
  unfold updP
  by_cases h : i = k
  · rw [if_pos h, if_pos h]
  · rw [if_neg h, if_neg h, if_neg h]
theorem own_slice {w : World} {base : Nat} {T : TypeId} {k : Nat} {v : Value} {n : Nat} {xs : List Value} (h : w.ownsRow base T k v n xs) : ∃ x c, v = .slice x n c := by
  rcases h.2 with ⟨rfl, rfl⟩ | ⟨g, cap, cur, hv, _⟩
  · exact ⟨none, 0, rfl⟩
  · exact ⟨_, cap, hv⟩
theorem BoxR.ne {w : World} {b g g2 : Nat} {s : RS} {x : Except Er Nat} (h : BoxR w b g2) (hx : Rx w g s x) : b ≠ g := by
  obtain ⟨_, _, hr⟩ := hx.form
  rintro rfl
  unfold BoxR at h
  unfold RB at hr
  rw [h] at hr
  simp at hr
def AppI (w : World) (g B q : Nat) (s : RS) (l : List Nat) (v : Value) (w' : World) : Prop := Rx w' g s (.ok q) ∧ RowI w' B v l ∧ But g B w w' ∧ (∀ T, T ≠ 3 → KT T w w') ∧ ∃ gg cap, v = .slice (some ⟨gg, 0, none⟩) l.length cap
theorem appI_step (w w1 : World) (g B q : Nat) (s : RS) (pv : Value) (pl : List Nat) (hx : Rx w1 g s (.ok q)) (hrow : RowI w1 B pv pl) (hb : But g B w w1) (hk : ∀ T, T ≠ 3 → KT T w w1) (hB : B ≤ w1.heap.size) (hn : pl.length ≤ 4194304) :
    ∃ v' w', (Builtin.append_ #[52, 52] 52 #[pv, .slice (some ⟨w1.heap.size, 0, none⟩) 1 1]).run Tryz.prog (w1.alloc (.cells #[.int .i64 (q : Nat)] 3)) = .ok v' w' ∧ AppI w g B q s (pl ++ [q]) v' w' := by
  have hbe := box_below w1 (.cells #[.int .i64 (q : Nat)] 3)
  have hrow2 : RowI (w1.alloc (.cells #[.int .i64 (q : Nat)] 3)) B pv pl := hrow.kt (KT.of_below hbe)
  obtain ⟨v', w', h1, h2, h3⟩ := app_int _ B pv pl q w1.heap.size 1 hrow2 (heap_alloc_new _ _) (Nat.le_trans hB hbe.size) hn
  have g1 := fun T (hT : T ≠ 3) => grown_kt (T := T) (T2 := 3) (k := 1) (xs := cellsI pl) h3 hrow2 hT
  have g2 := hb.alloc hB (.cells #[.int .i64 (q : Nat)] 3)
  have g3 := g2.grow (T := 3) (k := 1) (xs := cellsI pl) h3 hrow2 (Nat.le_refl _) (Nat.le_trans hB hbe.size)
  have g4 := own_form (T := 3) (k := 1) (xs := cellsI (pl ++ [q])) h2 (by simp)
  exact ⟨v', w', h1, (hx.below hbe).kt (g1 _ (by decide)) (g1 _ (by decide)), h2, g3, fun T hT => (hk T hT).trans ((KT.of_below hbe).trans (g1 T hT)), g4⟩
theorem Rx.setPk {w : World} {g q : Nat} {s : RS} (h : Rx w g s (.ok q)) {k : Nat} (hk : k < 6) (v : Value) : Rx (w.setCell ⟨g, 8 + k, none⟩ v) g { s with P := updP s.P k v } (.ok q) := RB.setPl h hk v
end Go.Proofs.YtplmmamebfpcjaaGreatDoor
end
