import Derived.Test.YtonbfcpbgkpbaaaGreatDoorJ6
import Derived.OrdersHeld
import Derived.Maps.OwnSet
import Derived.Maps.OwnOps
import Derived.WideKeyPair
section
/- A region that draws its order: its head (loads among calls that keep what the loads read) in whatever order, S holding all the while; then its tail, one operation behind the other, of which nothing is asked for S. -/
namespace Go.Proofs.YtonbfcpbgkpbaaaGreatDoor
open Go.RowKit
section
variable {P : Program} {ops : Array Oper} {md : Region.Mode} {Q : Exit → Act → World → Prop} {S : World → Prop} {n : Nat} {L : Array Bool → Act → World → Prop}
def HL (P : Program) (md : Region.Mode) (ops : Array Oper) (Q : Exit → Act → World → Prop) (S : World → Prop) (n : Nat) (L : Array Bool → Act → World → Prop) : Nat → Array Bool → Act → World → Prop
  | 0, listed, a, w => L listed a w
  | f + 1, listed, a, w =>
    Region.ready md ops listed ≠ [] ∧ ∀ i ∈ Region.ready md ops listed, i < n ∧ wpOp P ops Q i (fun a' w' => S w' ∧ HL P md ops Q S n L f (listed.setIfInBounds i true) a' w') a w
theorem of_HL {g : Nat} (hL : ∀ listed a w, L listed a w → wpAny P md ops Q g listed a w) : ∀ (f : Nat) (listed : Array Bool) (a : Act) (w : World), HL P md ops Q S n L f listed a w → wpAny P md ops Q (f + g) listed a w
  | 0, listed, a, w, h => by rw [Nat.zero_add]; exact hL _ _ _ h
  | f + 1, listed, a, w, h => by
    rw [show f + 1 + g = (f + g) + 1 by omega]
    exact ⟨fun h0 => absurd h0 h.1, fun i hi => wpOp_mono (fun a' w' h' => of_HL hL f _ a' w' h'.2) (h.2 i hi).2⟩
/-- No operation of the tail has come up; what one that has come up waits for has come up. -/
structure TailNo (md : Region.Mode) (ops : Array Oper) (n : Nat) (listed : Array Bool) : Prop where
  no : ∀ t, n ≤ t → t < ops.size → listed.getD t true = false
  closed : ∀ (i : Nat) (o : Oper), listed.getD i false = true → ops[i]? = some o → ∀ e ∈ o.after, Region.binds md e = true → listed.getD e.on false = true
theorem head_all (ht : tailB2 md ops n n = true) {listed : Array Bool} (hv : TailNo md ops n listed) {j : Nat} (hj : j ∈ Region.ready md ops listed) (hnj : n ≤ j) : ∀ d i, i < n → n - i ≤ d → listed.getD i false = true := by
  obtain ⟨hun, o, ho, hdep⟩ := mem_ready.1 hj
  have hjsz := (Array.getElem?_eq_some_iff.1 ho).1
  have h1 := List.all_eq_true.1 ht j (List.mem_range.2 hjsz)
  simp only [Bool.or_eq_true, decide_eq_true_eq] at h1
  intro d
  induction d with
  | zero => intro i hi hd; omega
  | succ d ih =>
    intro i hi hd
    rcases h1 with (h1 | h1) | h1
    · omega
    · have h2 := List.all_eq_true.1 h1 i (List.mem_range.2 hi)
      simp only [Bool.or_eq_true] at h2
      rcases h2 with h2 | h2
      · obtain ⟨oj, hoj, e, he, hb, hon⟩ := Region.waitsFor_spec h2
        obtain rfl : oj = o := Option.some.inj (hoj.symm.trans ho)
        have := hdep e he hb
        rwa [hon] at this
      · obtain ⟨k, hk, hk2⟩ := List.any_eq_true.1 h2
        simp only [Bool.and_eq_true, decide_eq_true_eq] at hk2
        have hkn := List.mem_range.1 hk
        obtain ⟨ok, hok, e, he, hb, hon⟩ := Region.waitsFor_spec hk2.2
        have := hv.closed k ok (ih k hkn (by omega)) hok e he hb
        rwa [hon] at this
    · obtain ⟨k, hk, hk2⟩ := List.any_eq_true.1 h1
      simp only [Bool.and_eq_true, decide_eq_true_eq] at hk2
      obtain ⟨oj, hoj, e, he, hb, hon⟩ := Region.waitsFor_spec hk2.2
      obtain rfl : oj = o := Option.some.inj (hoj.symm.trans ho)
      have := hdep e he hb
      have hkl := List.mem_range.1 hk
      rw [hon, getD_both (hv.no k hk2.1 (by omega))] at this
      cases this
theorem head_ready (ht : tailB2 md ops n n = true) {listed : Array Bool} (hv : TailNo md ops n listed) {i j : Nat} (hi : i < n) (hu : listed.getD i false = false) (hj : j ∈ Region.ready md ops listed) : j < n := by
  rcases Nat.lt_or_ge j n with h | h
  · exact h
  · have := head_all ht hv hj h n i hi (by omega)
    rw [hu] at this; cases this
theorem TailNo.set {listed : Array Bool} (h : TailNo md ops n listed) {i : Nat} (hi : i < n) (hr : i ∈ Region.ready md ops listed) : TailNo md ops n (listed.setIfInBounds i true) := by
  refine ⟨fun t h1 h2 => by rw [getD_set_ne true (by omega)]; exact h.no t h1 h2, fun k o hk ho e he hb => ?_⟩
  obtain ⟨hun, oi, hoi, hdep⟩ := mem_ready.1 hr
  by_cases hki : k = i
  · subst hki
    obtain rfl : oi = o := Option.some.inj (hoi.symm.trans ho)
    exact getD_set_true (hdep e he hb)
  · rw [getD_set_ne false (fun e => hki e.symm)] at hk
    exact getD_set_true (h.closed k o hk ho e he hb)
theorem HL_first {i : Nat} {oi : Oper} {v : Value} (hi : ops[i]? = some oi) (hsel : ∀ (j : Nat) (o : Oper) cs b, ops[j]? = some o → o.op ≠ .select cs b)
    (hQ : ∀ c a w, Q (.panic c) (a.put oi.dst v) w → Q (.panic c) a w) (ht : tailB2 md ops n n = true) (hin : i < n) (hdone : ∀ listed a w, L listed a w → ∀ j ∈ Region.ready md ops listed, n ≤ j) :
    ∀ (f : Nat) (listed : Array Bool) (a : Act) (w : World), TailNo md ops n listed →
      (∀ j oj, ops[j]? = some oj → j ≠ i → listed.getD j true = false → (∀ e ∈ oj.after, Region.binds md e = true → e.on ≠ i) → oi.apart ops oj = true) →
      i ∈ Region.ready md ops listed → YieldsIf P ops S oi v a → S w →
      HL P md ops Q S n L f (listed.setIfInBounds i true) (a.put oi.dst v) w → HL P md ops Q S n L (f + 1) listed a w := by
  intro f
  induction f with
  | zero =>
    intro listed a w hv _ hr hy hS H
    refine ⟨fun h => (by rw [h] at hr; cases hr), fun j hj => ?_⟩
    have hjn := head_ready ht hv hin (getD_both (mem_ready.1 hr).1) hj
    refine ⟨hjn, ?_⟩
    by_cases hji : j = i
    · subst hji; exact hy.wpOp hi hS ⟨hS, H⟩
    · have := hdone _ _ _ H j (ready_mono hj hji)
      omega
  | succ f ih =>
    intro listed a w hv hfree hr hy hS H
    refine ⟨fun h => (by rw [h] at hr; cases hr), fun j hj => ?_⟩
    have hjn := head_ready ht hv hin (getD_both (mem_ready.1 hr).1) hj
    refine ⟨hjn, ?_⟩
    by_cases hji : j = i
    · subst hji; exact hy.wpOp hi hS ⟨hS, H⟩
    · have h1 := (H.2 j (ready_mono hj hji)).2
      obtain ⟨hjun, oj, hoj, hall⟩ := mem_ready.1 hj
      have hnot : ∀ e ∈ oj.after, Region.binds md e = true → e.on ≠ i := fun e he hb heq => by
        have h1 := hall e he hb
        have h0 := (mem_ready.1 hr).1
        rw [heq] at h1
        rw [getD_both h0] at h1
        cases h1
      have h2 := wpOp_putIf hoj (hfree j oj hoj hji hjun hnot) (fun cs b => hsel i oi cs b hi) (fun cs b => hsel j oj cs b hoj) hQ hy h1
      have hfree' : ∀ k ok, ops[k]? = some ok → k ≠ i → (listed.setIfInBounds j true).getD k true = false →
          (∀ e ∈ ok.after, Region.binds md e = true → e.on ≠ i) → oi.apart ops ok = true := fun k ok hk hki hun hno => by
        refine hfree k ok hk hki ?_ hno
        by_cases hjk : j = k
        · subst hjk; exact hjun
        · rw [getD_set_ne true hjk] at hun; exact hun
      refine wpOp_mono (fun a' w' h3 => ⟨h3.2.1, ih (listed.setIfInBounds j true) a' w' (hv.set hjn hj) hfree' (ready_mono hr (Ne.symm hji)) h3.1 h3.2.1 ?_⟩) h2
      rw [Array.setIfInBounds_comm _ _ hji]
      exact h3.2.2
/-- What holds behind the head: the tail is to be walked. -/
def TailL (P : Program) (Q : Exit → Act → World → Prop) (n : Nat) (l : List Oper) (listed : Array Bool) (a : Act) (w : World) : Prop :=
  listed = Array.replicate n true ++ Array.replicate (l.length - n) false ∧ wpList P l.toArray Q (l.drop n) a w
def heldB (md : Region.Mode) (l : List Oper) (n : Nat) : Bool :=
  decide (n ≤ l.length) && tailB2 md l.toArray n n && Region.noSelect l.toArray && Region.seqB md l.toArray (l.length - n) n (Array.replicate n true ++ Array.replicate (l.length - n) false)
theorem tailL_done {l : List Oper} {listed : Array Bool} {a : Act} {w : World} (h : TailL P Q n l listed a w) : ∀ j ∈ Region.ready md l.toArray listed, n ≤ j := by
  intro j hj
  obtain ⟨hun, o, ho, _⟩ := mem_ready.1 hj
  rcases Nat.lt_or_ge j n with h1 | h1
  · rw [h.1] at hun
    have hjs : j < (Array.replicate n true ++ Array.replicate (l.length - n) false).size := by simp; omega
    rw [Array.getD_eq_getD_getElem?, Array.getElem?_eq_getElem hjs, Array.getElem_append_left (by simpa using h1)] at hun
    simp at hun
  · exact h1
def tailNoB (md : Region.Mode) (l : List Oper) (n : Nat) (listed : Array Bool) : Bool :=
  ((List.range l.length).all fun t => decide (t < n) || !listed.getD t true) &&
  ((List.range l.length).all fun i => !listed.getD i false || match l[i]? with | some o => o.after.toList.all fun e => !Region.binds md e || listed.getD e.on false | none => true)
theorem tailNo_of {l : List Oper} {listed : Array Bool} (h : tailNoB md l n listed = true) : TailNo md l.toArray n listed := by
  unfold tailNoB at h
  rw [Bool.and_eq_true] at h
  refine ⟨fun t h1 h2 => ?_, fun i o hi ho e he hb => ?_⟩
  · have := List.all_eq_true.1 h.1 t (List.mem_range.2 (by simpa using h2))
    simp only [Bool.or_eq_true, decide_eq_true_eq, Bool.not_eq_true'] at this
    rcases this with h3 | h3
    · omega
    · exact h3
  · have ho' : l[i]? = some o := by simpa using ho
    have := List.all_eq_true.1 h.2 i (List.mem_range.2 (List.getElem?_eq_some_iff.1 ho').1)
    rw [ho', hi] at this
    simp only [Bool.not_true, Bool.false_or] at this
    have := List.all_eq_true.1 this e (by simpa using he)
    rw [hb] at this
    simpa using this
/-- Taken first. -/
theorem HL_take {l : List Oper} {i : Nat} {oi : Oper} (v : Value) {f : Nat} {listed : Array Bool} {a : Act} {w : World} (hB : heldB md l n = true) (hi : l.toArray[i]? = some oi) (hin : i < n) (htn : tailNoB md l n listed = true)
    (hf : Region.free md l.toArray listed i = true) (hr : (Region.ready md l.toArray listed).contains i = true)
    (hQ : ∀ c (a : Act) w, Q (.panic c) (a.put oi.dst v) w → Q (.panic c) a w) (hy : YieldsIf P l.toArray S oi v a) (hS : S w)
    (h : HL P md l.toArray Q S n (TailL P Q n l) f (listed.setIfInBounds i true) (a.put oi.dst v) w) : HL P md l.toArray Q S n (TailL P Q n l) (f + 1) listed a w := by
  unfold heldB at hB
  simp only [Bool.and_eq_true, decide_eq_true_eq] at hB
  exact HL_first hi (Region.noSelect_spec hB.1.2) hQ hB.1.1.2 hin (fun _ _ _ h => tailL_done h) f listed a w (tailNo_of htn) (Region.free_spec hi hf) (by simpa using hr) hy hS h
theorem HL_one {L : Array Bool → Act → World → Prop} {i : Nat} {o : Oper} {f : Nat} {listed : Array Bool} {a : Act} {w : World} (hi : ops[i]? = some o) (hin : i < n) (hr : Region.ready md ops listed = [i]) (hg : o.guard = none)
    (h : o.wp P a w (fun a' w' => S w' ∧ HL P md ops Q S n L f (listed.setIfInBounds i true) a' w') Q) : HL P md ops Q S n L (f + 1) listed a w := by
  refine ⟨by rw [hr]; exact List.cons_ne_nil _ _, fun k hk => ?_⟩
  rw [hr] at hk
  obtain rfl : k = i := by simpa using hk
  refine ⟨hin, ?_⟩
  unfold wpOp
  simp only [hi, Region.wanted, hg, if_true]
  exact .inl h
theorem wp_value {o : Oper} {a : Act} {w w' : World} {v : Value} {K : Act → World → Prop} (hrun : (execOp a.eval o).run P w = .ok (.value v) w') (h : K (a.put o.dst v) w') : o.wp P a w K Q := by
  unfold Oper.wp
  rw [hrun]
  exact h
theorem wp_enter {o : Oper} {a : Act} {w : World} {f : FuncId} {args : Array Value} {K : Act → World → Prop} (hrun : (execOp a.eval o).run P w = .ok (.enter f args) w) (h : Calls P f args w fun e w' => ∃ v, e = .returned v ∧ K (a.put o.dst v) w') : o.wp P a w K Q := by
  unfold Oper.wp
  rw [hrun]
  refine h.mono ?_
  rintro e w' ⟨v, rfl, hK⟩
  exact hK
theorem wp_append {o : Oper} {a : Act} {w : World} {K : Act → World → Prop} (s x : Operand) (t tx : TypeId) (hop : o.op = Op.call { callee := Callee.builtin Builtin.append, args := #[s, x], argTypes := #[t, tx] }) (v y : Value) (hs : a.eval s = v) (hx : a.eval x = y) (R : Value → World → Prop)
    (hr : ∃ v' w', (Builtin.append_ #[t, tx] o.type #[v, y]).run P w = .ok v' w' ∧ R v' w') (hK : ∀ v' w', R v' w' → K (a.put o.dst v') w') : o.wp P a w K Q := by
  obtain ⟨v', w', hrun, hR⟩ := hr
  unfold Oper.wp
  simp [execOp, hop, resolve, invoke, builtin, hs, hx, hrun, Result.andThen]
  exact hK v' w' hR
/-- THE LAW. -/
theorem wp_region_heldtail {id : Nat} {a : Act} {w : World} {l : List Oper} (n : Nat) (S : World → Prop) (hm : P.follows .mixedOrders = true) (hB : heldB .any l n = true)
    (h : HL P .any l.toArray Q S n (TailL P Q n l) n (Array.replicate l.length false) a w.drew) : (Code.region id l.toArray true).wp P Q a w := by
  have hB' := hB
  unfold heldB at hB'
  simp only [Bool.and_eq_true, decide_eq_true_eq] at hB'
  refine wp_region_any hm ?_
  have h1 := of_HL (g := l.length - n) (fun listed a w hl => by
    obtain ⟨rfl, h2⟩ := hl
    have := wpAny_of_seq (P := P) (md := .any) (ops := l.toArray) (Q' := Q) (l.drop n) n (Array.replicate n true ++ Array.replicate (l.length - n) false) a w (fun j => by simp) (by rw [List.length_drop]; exact hB'.2) h2
    rwa [List.length_drop] at this) n _ a w.drew h
  rw [show n + (l.length - n) = l.toArray.size by simp; omega] at h1
  simpa using h1
end
end Go.Proofs.YtonbfcpbgkpbaaaGreatDoor
end
section
/- recipe's parser.merge: its contract. -/
namespace Go.Proofs.YtonbfcpbgkpbaaaGreatDoor
open Go.RowKit Go.Sort Go.Joins
set_option linter.unusedVariables false
set_option linter.unusedSimpArgs false
set_option maxRecDepth 100000
def encT (t : Tok) : List Value := [.int .i64 (t.k : Nat), .int .i64 (t.at' : Nat), .string (textOf t.s)]
def encW (x : Wr) : List Value := encT x.l ++ encT x.r ++ encT x.i
theorem encW_length (x : Wr) : (encW x).length = 9 := rfl
theorem encW_one (x : Wr) : ∀ v ∈ encW x, v.oneCell' = true := by
  intro v hv
  simp [encW, encT] at hv
  rcases hv with rfl | rfl | rfl | rfl | rfl | rfl | rfl | rfl | rfl <;> rfl
theorem infoWr : (Tryz.prog.info? 109).map (fun i => (i.zero, i.size, i.bytes)) = some (some (.agg #[.int .i64 0, .int .i64 0, .string ⟨#[]⟩, .int .i64 0, .int .i64 0, .string ⟨#[]⟩, .int .i64 0, .int .i64 0, .string ⟨#[]⟩]), 9, 96) := by kernel_rfl
/-- A merge as it is written lies at block x. -/
def XB (w : World) (x : Nat) (l r i : Tok) : Prop := w.heap[x]? = some (.cells (encW ⟨l, r, i⟩).toArray 109 (0, 0))
theorem XB.set3 {w : World} {x : Nat} {l r i t : Tok} (h : XB w x l r i) : XB (((w.setCell ⟨x, 0, none⟩ (.int .i64 (t.k : Nat))).setCell ⟨x, 1, none⟩ (.int .i64 (t.at' : Nat))).setCell ⟨x, 2, none⟩ (.string (textOf t.s))) x t r i ∧
    XB (((w.setCell ⟨x, 3, none⟩ (.int .i64 (t.k : Nat))).setCell ⟨x, 4, none⟩ (.int .i64 (t.at' : Nat))).setCell ⟨x, 5, none⟩ (.string (textOf t.s))) x l t i ∧
    XB (((w.setCell ⟨x, 6, none⟩ (.int .i64 (t.k : Nat))).setCell ⟨x, 7, none⟩ (.int .i64 (t.at' : Nat))).setCell ⟨x, 8, none⟩ (.string (textOf t.s))) x l r t :=
  ⟨block_setCell (i := 2) (block_setCell (i := 1) (block_setCell (i := 0) h _) _) _, block_setCell (i := 5) (block_setCell (i := 4) (block_setCell (i := 3) h _) _) _, block_setCell (i := 8) (block_setCell (i := 7) (block_setCell (i := 6) h _) _) _⟩
theorem heap_three {w : World} {b : Nat} {x : Nat} {i j k : Nat} {u0 u1 u2 : Value} (hb : b ≠ x) : (((w.setCell ⟨x, i, none⟩ u0).setCell ⟨x, j, none⟩ u1).setCell ⟨x, k, none⟩ u2).heap[b]? = w.heap[b]? :=
  (Below.heap_setCell _ _ _ _ hb).trans ((Below.heap_setCell _ _ _ _ hb).trans (Below.heap_setCell _ _ _ _ hb))
theorem But.threeX {g B : Nat} {w w' : World} (h : But g B w w') {z : Nat} (hz : B ≤ z) {i j k : Nat} (u0 u1 u2 : Value) : But g B w (((w'.setCell ⟨z, i, none⟩ u0).setCell ⟨z, j, none⟩ u1).setCell ⟨z, k, none⟩ u2) :=
  ((h.above (p := ⟨z, i, none⟩) hz u0).above (p := ⟨z, j, none⟩) hz u1).above (p := ⟨z, k, none⟩) hz u2
theorem take_plain (g : Nat) (src : ByteArray) (st : PS) (d : DV) (k : Nat) (w : World) (h : PX w g src st d) (hs : src.size ≤ 4194304) (hk : k ≤ 5) :
    Calls Tryz.prog 55 #[.pointer (some ⟨g, 0, none⟩), .int .i64 (k : Nat), .slice none 0 0] w (TakePost w g src d (takeP (mEmpty k) st)) := by
  have hT := take_any g src st d k none 0 [] w h (.inl rfl) (by simp) hs hk
  rw [mW_nil] at hT
  exact hT
theorem PX.cellM {w : World} {g : Nat} {src : ByteArray} {st : PS} {d : DV} (h : PX w g src st d) : w.cell? ⟨g, 5, none⟩ = some d.M ∧ w.frozen? ⟨g, 5, none⟩ = false := by
  obtain ⟨z, hP, hr, rfl⟩ := h
  exact ⟨hP.c5, hP.free _⟩
theorem PX.putM {w : World} {g : Nat} {src : ByteArray} {st : PS} {d : DV} (h : PX w g src st d) (v : Value) : PX (w.setCell ⟨g, 5, none⟩ v) g src st { d with M := v } := by
  obtain ⟨z, hP, hr, rfl⟩ := h
  exact ⟨_, hP.setM v, hr, rfl⟩
/-- One merge is laid behind the others. -/
theorem wr_app (wr : World) (base : Nat) (v : Value) (l : List Wr) (x : Wr) (hown : OwnG 109 9 encW wr base v l) (hb : base ≤ wr.heap.size) (hl : l.length ≤ 8388608) :
    ∃ v' w', (Builtin.append_ #[93, 93] 93 #[v, .slice (some ⟨wr.heap.size, 0, none⟩) 1 1]).run Tryz.prog (wr.alloc (.cells (encW x).toArray 109)) = .ok v' w' ∧ OwnG 109 9 encW w' base v' (l ++ [x]) ∧ Bu wr.heap.size v.ownBlock wr.heap.size wr w' ∧ Moved v v' wr.heap.size := by
  obtain ⟨i0, hi0, hz0, hz1, hz2⟩ := info_parts infoWr
  have bx := box_below wr (.cells (encW x).toArray 109)
  obtain ⟨v', w', h1, h2, h3, h4⟩ := run_own_g 93 109 i0 _ 9 96 encW encW_length (by omega) encW_one Tryz.underlying93 hi0 hz0 hz1 hz2 rfl (wr.alloc (.cells (encW x).toArray 109)) base v l x wr.heap.size 1 (hown.below bx (Nat.le_refl _)) (heap_alloc_new wr _) (by simp; omega) (by omega) (by omega)
  refine ⟨v', w', h1, h2, ⟨h3.os.trans bx.os, h3.tape.trans bx.tape, h3.output.trans bx.output, Nat.le_trans bx.size h3.size, fun k hk hne ho => (h3.block k (by have := bx.size; omega) ho).trans (bx.block k hk)⟩, fun b hbb => ?_⟩
  rcases h4 b hbb with h | h
  · exact .inl h
  · exact .inr (Nat.le_trans bx.size h)
set_option maxHeartbeats 2000000 in
theorem merge_any (g base : Nat) (src : ByteArray) (st : PS) (d : DV) (l0 : List Wr) (w : World) (h : PX w g src st d) (ht : Toks st) (hs : src.size ≤ 4194304) (hown : OwnG 109 9 encW w base d.M l0) (hg : g < base) (hbase : base ≤ w.heap.size) (hl : l0.length ≤ 8388608) :
    Calls Tryz.prog 56 #[.pointer (some ⟨g, 0, none⟩)] w fun e w' => e = .returned (.tuple #[]) ∧ ∃ v, PX w' g src (mergeP st).2 { d with M := v } ∧ OwnG 109 9 encW w' base v (l0 ++ [(mergeP st).1]) ∧ Bu g d.M.ownBlock w.heap.size w w' ∧ Moved d.M v w.heap.size ∧ Toks (mergeP st).2 := by
  have bx := box_below w (.cells #[.int .i64 0, .int .i64 0, .string ⟨#[]⟩, .int .i64 0, .int .i64 0, .string ⟨#[]⟩, .int .i64 0, .int .i64 0, .string ⟨#[]⟩] 109)
  have hX : XB (w.alloc (.cells #[.int .i64 0, .int .i64 0, .string ⟨#[]⟩, .int .i64 0, .int .i64 0, .string ⟨#[]⟩, .int .i64 0, .int .i64 0, .string ⟨#[]⟩] 109)) w.heap.size zeroT zeroT zeroT := heap_alloc_new w _
  have hP := h.below bx h.lt
  have hlt := h.lt
  obtain ⟨W, hW⟩ : ∃ W, W = w.alloc (.cells #[.int .i64 0, .int .i64 0, .string ⟨#[]⟩, .int .i64 0, .int .i64 0, .string ⟨#[]⟩, .int .i64 0, .int .i64 0, .string ⟨#[]⟩] 109) := ⟨_, rfl⟩
  have hsW : W.heap.size = w.heap.size + 1 := by rw [hW]; simp
  rw [← hW] at bx hX hP
  have HW := Lib.hid hW
  have HMP : Hid (mergeP st = (⟨(takeP (mEmpty 4) st).1, (takeP (mEmpty 4) (takeP (sgn sPlus) (takeP (mEmpty 4) st).2).2).1, (takeP (mEmpty 2) (takeP (sgn sEq) (takeP (mEmpty 4) (takeP (sgn sPlus) (takeP (mEmpty 4) st).2).2).2).2).1⟩, (takeP (mEmpty 2) (takeP (sgn sEq) (takeP (mEmpty 4) (takeP (sgn sPlus) (takeP (mEmpty 4) st).2).2).2).2).2)) := Lib.hid rfl
  have hT : Toks (mergeP st).2 := by
    rw [HMP.out]
    exact (((((ht.take _).1.take _).1.take _).1.take _).1.take _).1
  have HT := Lib.hid hT
  have H1 := take_plain g src st d 4 W hP hs (by omega)
  obtain ⟨⟨t1, s1⟩, hr⟩ : ∃ r, r = takeP (mEmpty 4) st := ⟨_, rfl⟩
  rw [← hr] at H1 HMP
  simp only at HMP
  have HB0 := Lib.hid bx
  have HSW := Lib.hid hsW
  have HO := Lib.hid hown
  obtain ⟨x, hx⟩ : ∃ x, x = w.heap.size := ⟨_, rfl⟩
  rw [← hx] at hX
  have HX0 := Lib.hid hX
  have HXX := Lib.hid hx
  clear hr h hX bx hP hown hsW hW hT ht
  go_enter Tryz.func56, Tryz.ntmps56
  go_wp2_with fail
  rw [← HW.out, ← hx]
  clear hx
  refine H1.mono ?_
  rintro e w1 ⟨rfl, hP1, hb1⟩
  have hX1 : XB w1 x zeroT zeroT zeroT := (hb1.2.2.2.2 x (by have := HSW.out; have := HXX.out; omega) (by have := HXX.out; omega)).trans HX0.out
  have hB1 := (But.of_below (b := g) HB0.out).trans (hb1.mono (by have := HSW.out; omega))
  clear H1 hb1
  have hXs := (XB.set3 (t := t1) hX1).1
  have x0 : w1.cell? ⟨x, 0, none⟩ = some (.int .i64 0) := (cell_of_block hX1 0).trans rfl
  have x1 : w1.cell? ⟨x, 1, none⟩ = some (.int .i64 0) := (cell_of_block hX1 1).trans rfl
  have x2 : w1.cell? ⟨x, 2, none⟩ = some (.string ⟨#[]⟩) := (cell_of_block hX1 2).trans rfl
  have f0 := fun j => unfrozen_of_block hX1 j
  have hPs : PX (((w1.setCell ⟨x, 0, none⟩ (.int .i64 (t1.k : Nat))).setCell ⟨x, 1, none⟩ (.int .i64 (t1.at' : Nat))).setCell ⟨x, 2, none⟩ (.string (textOf t1.s))) g src s1 d := hP1.bu (heap_three (by have := HXX.out; omega))
  have hBs := hB1.threeX (z := x) (i := 0) (j := 1) (k := 2) (by have := HXX.out; omega) (.int .i64 (t1.k : Nat)) (.int .i64 (t1.at' : Nat)) (.string (textOf t1.s))
  have hszs : (((w1.setCell ⟨x, 0, none⟩ (.int .i64 (t1.k : Nat))).setCell ⟨x, 1, none⟩ (.int .i64 (t1.at' : Nat))).setCell ⟨x, 2, none⟩ (.string (textOf t1.s))).heap.size = w1.heap.size := by simp
  obtain ⟨v1, hv1⟩ : ∃ v, v = ((w1.setCell ⟨x, 0, none⟩ (.int .i64 (t1.k : Nat))).setCell ⟨x, 1, none⟩ (.int .i64 (t1.at' : Nat))).setCell ⟨x, 2, none⟩ (.string (textOf t1.s)) := ⟨_, rfl⟩
  rw [← hv1] at hXs hPs hBs hszs
  have HV1 := Lib.hid hv1
  have HXs := Lib.hid hXs
  have HPs := Lib.hid hPs
  have HBs := Lib.hid hBs
  have H2 := take_sign sPlus ⟨#[43]⟩ rfl g src s1 d v1 hPs hs
  rw [hszs] at H2
  obtain ⟨⟨t2, s2⟩, hr⟩ : ∃ r, r = takeP (sgn sPlus) s1 := ⟨_, rfl⟩
  rw [← hr] at H2 HMP
  simp only at HMP
  clear hr hX1 hP1 hB1 hXs hPs hBs hszs hv1
  unfold tokV
  go_wp2_with fail
  rw [← HV1.out]
  refine H2.mono ?_
  rintro e w2 ⟨rfl, hP2, hb⟩
  have hX2 := (hb.2.2.2.2 x (by have h0 : x < v1.heap.size := (Array.getElem?_eq_some_iff.1 HXs.out).1
                                exact h0) (by have := HXX.out; omega)).trans HXs.out
  have hB2 := HBs.out.trans (hb.mono HBs.out.size)
  clear H2 hb x0 x1 x2 f0 HXs HPs HBs
  have H3 := take_plain g src s2 d 4 w2 hP2 hs (by omega)
  obtain ⟨⟨t3, s3⟩, hr⟩ : ∃ r, r = takeP (mEmpty 4) s2 := ⟨_, rfl⟩
  rw [← hr] at H3 HMP
  simp only at HMP
  clear hr
  go_wp2_with fail
  refine H3.mono ?_
  rintro e w3 ⟨rfl, hP3, hb⟩
  have hX3 := (hb.2.2.2.2 x (by have h0 : x < w2.heap.size := (Array.getElem?_eq_some_iff.1 hX2).1
                                exact h0) (by have := HXX.out; omega)).trans hX2
  have hB3 := hB2.trans (hb.mono hB2.size)
  clear H3 hb hX2 hP2 hB2
  have hXs := (XB.set3 (t := t3) hX3).2.1
  have x0 : w3.cell? ⟨x, 3, none⟩ = some (.int .i64 0) := (cell_of_block hX3 3).trans rfl
  have x1 : w3.cell? ⟨x, 4, none⟩ = some (.int .i64 0) := (cell_of_block hX3 4).trans rfl
  have x2 : w3.cell? ⟨x, 5, none⟩ = some (.string ⟨#[]⟩) := (cell_of_block hX3 5).trans rfl
  have f0 := fun j => unfrozen_of_block hX3 j
  have hPs : PX (((w3.setCell ⟨x, 3, none⟩ (.int .i64 (t3.k : Nat))).setCell ⟨x, 4, none⟩ (.int .i64 (t3.at' : Nat))).setCell ⟨x, 5, none⟩ (.string (textOf t3.s))) g src s3 d := hP3.bu (heap_three (by have := HXX.out; omega))
  have hBs := hB3.threeX (z := x) (i := 3) (j := 4) (k := 5) (by have := HXX.out; omega) (.int .i64 (t3.k : Nat)) (.int .i64 (t3.at' : Nat)) (.string (textOf t3.s))
  have hszs : (((w3.setCell ⟨x, 3, none⟩ (.int .i64 (t3.k : Nat))).setCell ⟨x, 4, none⟩ (.int .i64 (t3.at' : Nat))).setCell ⟨x, 5, none⟩ (.string (textOf t3.s))).heap.size = w3.heap.size := by simp
  obtain ⟨v3, hv3⟩ : ∃ v, v = ((w3.setCell ⟨x, 3, none⟩ (.int .i64 (t3.k : Nat))).setCell ⟨x, 4, none⟩ (.int .i64 (t3.at' : Nat))).setCell ⟨x, 5, none⟩ (.string (textOf t3.s)) := ⟨_, rfl⟩
  rw [← hv3] at hXs hPs hBs hszs
  have HV3 := Lib.hid hv3
  have HXs := Lib.hid hXs
  have HPs := Lib.hid hPs
  have HBs := Lib.hid hBs
  have H4 := take_sign sEq ⟨#[61]⟩ rfl g src s3 d v3 hPs hs
  rw [hszs] at H4
  obtain ⟨⟨t4, s4⟩, hr⟩ : ∃ r, r = takeP (sgn sEq) s3 := ⟨_, rfl⟩
  rw [← hr] at H4 HMP
  simp only at HMP
  clear hr hX3 hP3 hB3 hXs hPs hBs hszs hv3
  unfold tokV
  go_wp2_with fail
  rw [← HV3.out]
  refine H4.mono ?_
  rintro e w4 ⟨rfl, hP4, hb⟩
  have hX4 := (hb.2.2.2.2 x (by have h0 : x < v3.heap.size := (Array.getElem?_eq_some_iff.1 HXs.out).1
                                exact h0) (by have := HXX.out; omega)).trans HXs.out
  have hB4 := HBs.out.trans (hb.mono HBs.out.size)
  clear H4 hb x0 x1 x2 f0 HXs HPs HBs
  have H5 := take_plain g src s4 d 2 w4 hP4 hs (by omega)
  obtain ⟨⟨t5, s5⟩, hr⟩ : ∃ r, r = takeP (mEmpty 2) s4 := ⟨_, rfl⟩
  rw [← hr] at H5 HMP
  simp only at HMP
  clear hr
  go_wp2_with fail
  refine H5.mono ?_
  rintro e w5 ⟨rfl, hP5, hb⟩
  have hX5 := (hb.2.2.2.2 x (by have h0 : x < w4.heap.size := (Array.getElem?_eq_some_iff.1 hX4).1
                                exact h0) (by have := HXX.out; omega)).trans hX4
  have hB5 := hB4.trans (hb.mono hB4.size)
  clear H5 hb hX4 hP4 hB4
  have hXs := (XB.set3 (t := t5) hX5).2.2
  have x0 : w5.cell? ⟨x, 6, none⟩ = some (.int .i64 0) := (cell_of_block hX5 6).trans rfl
  have x1 : w5.cell? ⟨x, 7, none⟩ = some (.int .i64 0) := (cell_of_block hX5 7).trans rfl
  have x2 : w5.cell? ⟨x, 8, none⟩ = some (.string ⟨#[]⟩) := (cell_of_block hX5 8).trans rfl
  have f0 := fun j => unfrozen_of_block hX5 j
  have hPs : PX (((w5.setCell ⟨x, 6, none⟩ (.int .i64 (t5.k : Nat))).setCell ⟨x, 7, none⟩ (.int .i64 (t5.at' : Nat))).setCell ⟨x, 8, none⟩ (.string (textOf t5.s))) g src s5 d := hP5.bu (heap_three (by have := HXX.out; omega))
  have hBs := hB5.threeX (z := x) (i := 6) (j := 7) (k := 8) (by have := HXX.out; omega) (.int .i64 (t5.k : Nat)) (.int .i64 (t5.at' : Nat)) (.string (textOf t5.s))
  have hszs : (((w5.setCell ⟨x, 6, none⟩ (.int .i64 (t5.k : Nat))).setCell ⟨x, 7, none⟩ (.int .i64 (t5.at' : Nat))).setCell ⟨x, 8, none⟩ (.string (textOf t5.s))).heap.size = w5.heap.size := by simp
  obtain ⟨v5, hv5⟩ : ∃ v, v = ((w5.setCell ⟨x, 6, none⟩ (.int .i64 (t5.k : Nat))).setCell ⟨x, 7, none⟩ (.int .i64 (t5.at' : Nat))).setCell ⟨x, 8, none⟩ (.string (textOf t5.s)) := ⟨_, rfl⟩
  rw [← hv5] at hXs hPs hBs hszs
  have HV5 := Lib.hid hv5
  have HXs := Lib.hid hXs
  have HPs := Lib.hid hPs
  have HBs := Lib.hid hBs
  clear hX5 hP5 hB5
  unfold tokV
  obtain ⟨hcm, hfm⟩ := hPs.cellM
  have hO5 := HO.out.but HBs.out (Nat.le_refl _) hg
  have hsz5 := HBs.out.size
  have hd : Below v5.heap.size v5 v5.drew := (Below.refl _ _).drew
  obtain ⟨mv, hmv⟩ : ∃ v, v = d.M := ⟨_, rfl⟩
  have hmx : ∀ i, mv.ownBlock = some i → i < x := fun i hi => by have := (HO.out.block (by rw [← hmv]; exact hi)).2.1; have := HXX.out; omega
  rw [← hmv] at hcm hO5
  have hOd := hO5.below hd (Nat.le_refl _)
  obtain ⟨v', w6, hr6, hO6, hB6, hM6⟩ := wr_app v5.drew base mv l0 ⟨t1, t3, t5⟩ hOd (Nat.le_trans (Nat.le_trans hbase hsz5) hd.size) hl
  have hds : v5.drew.heap.size = v5.heap.size := by simp
  rw [hds] at hr6 hB6 hM6
  have hlt5 := hPs.lt
  have hgk : w6.heap[g]? = v5.heap[g]? := (hB6.block g (by omega) (by omega) (fun e => by have := (hO5.block e.symm).1; omega)).trans (hd.block g (by omega))
  have hx5 : x < v5.heap.size := (Array.getElem?_eq_some_iff.1 hXs).1
  have hxk : w6.heap[x]? = v5.heap[x]? := (hB6.block x (by omega) (by omega) (fun e => by have := hmx x e.symm; omega)).trans (hd.block x hx5)
  have hP6 : PX w6 g src s5 d := hPs.bu hgk
  have hX6 : XB w6 x t1 t3 t5 := hxk.trans hXs
  obtain ⟨hcm6, hfm6⟩ := hP6.cellM
  rw [← hmv] at hcm6
  obtain ⟨gg, n, cap, hv, hn⟩ := hO6.form (by simp)
  subst hv
  have hP7 := hP6.putM (.slice (some ⟨gg, 0, none⟩) n cap)
  have hO7 := hO6.but ((But.refl g w6.heap.size w6).setCell 5 (.slice (some ⟨gg, 0, none⟩) n cap)) (Nat.le_refl _) hg
  have hB7 : Bu g mv.ownBlock w.heap.size w w6 := ⟨hB6.os.trans (hd.os.trans HBs.out.1), hB6.tape.trans (hd.tape.trans HBs.out.2.1), hB6.output.trans (hd.output.trans HBs.out.2.2.1), Nat.le_trans (Nat.le_trans hsz5 hd.size) hB6.size, fun k hk hkg hko => (hB6.block k (by omega) (by omega) hko).trans ((hd.block k (by omega)).trans (HBs.out.2.2.2.2 k hk hkg))⟩
  have hM7 : Moved mv (.slice (some ⟨gg, 0, none⟩) n cap) w.heap.size := fun b hb => by
    rcases hM6 b hb with h1 | h1
    · exact .inl h1
    · exact .inr (by omega)
  have HP7 := Lib.hid hP7
  have HO7 := Lib.hid hO7
  have HB7 := Lib.hid (hB7.setCell 5 (.slice (some ⟨gg, 0, none⟩) n cap))
  have HM7 := Lib.hid hM7
  have HMV := Lib.hid hmv
  have hS : (fun w' : World => w'.cell? ⟨g, 5, none⟩ = some mv ∧ XB w' x t1 t3 t5) v5.drew := ⟨by simpa using hcm, (hd.block x hx5).trans hXs⟩
  have hS : v5.drew.cell? ⟨g, 5, none⟩ = some mv ∧ XB v5.drew x t1 t3 t5 := hS
  have HX6 := Lib.hid hX6
  have hr6 : (Builtin.append_ #[93, 93] 93 #[mv, .slice (some ⟨v5.heap.size, 0, none⟩) 1 1]).run Tryz.prog (v5.drew.alloc (.cells #[.int .i64 (t1.k : Nat), .int .i64 (t1.at' : Nat), .string (textOf t1.s), .int .i64 (t3.k : Nat), .int .i64 (t3.at' : Nat), .string (textOf t3.s), .int .i64 (t5.k : Nat), .int .i64 (t5.at' : Nat), .string (textOf t5.s)] 109)) = .ok (.slice (some ⟨gg, 0, none⟩) n cap) w6 := hr6
  have hSA : (v5.drew.alloc (.cells #[.int .i64 (t1.k : Nat), .int .i64 (t1.at' : Nat), .string (textOf t1.s), .int .i64 (t3.k : Nat), .int .i64 (t3.at' : Nat), .string (textOf t3.s), .int .i64 (t5.k : Nat), .int .i64 (t5.at' : Nat), .string (textOf t5.s)] 109)).cell? ⟨g, 5, none⟩ = some mv ∧ XB (v5.drew.alloc (.cells #[.int .i64 (t1.k : Nat), .int .i64 (t1.at' : Nat), .string (textOf t1.s), .int .i64 (t3.k : Nat), .int .i64 (t3.at' : Nat), .string (textOf t3.s), .int .i64 (t5.k : Nat), .int .i64 (t5.at' : Nat), .string (textOf t5.s)] 109)) x t1 t3 t5 := ⟨cell_alloc_s hS.1 _, ((box_below v5.drew _).block x (by rw [hds]; exact hx5)).trans hS.2⟩
  have HSA := Lib.hid hSA
  have HR6 := Lib.hid hr6
  have HCM6 := Lib.hid hcm6
  have hfm6' := hfm6
  clear hXs hPs hBs hszs hv5 hO5 hOd hd hO6 hB6 hM6 hgk hxk hP6 hX6 hn hP7 hO7 hB7 hM7 hmv hmx hcm hfm hSA hr6 hcm6 hfm6 HXs HPs HBs hsz5
  go_upto_region 6 with fail
  rw [← HV5.out]
  refine wp_region_heldtail 8 (fun w' : World => w'.cell? ⟨g, 5, none⟩ = some mv ∧ XB w' x t1 t3 t5) (by kernel_rfl) (by kernel_rfl) ?_
  refine HL_take (i := 0) (.pointer (some ⟨g, 0, none⟩)) (by kernel_rfl) rfl (by omega) (by kernel_rfl) (by kernel_rfl) (by kernel_rfl) (fun _ _ _ h => h) (.inl ⟨by kernel_rfl, fun w' hw' => by obtain ⟨u0, u1⟩ := hw'; go_simp⟩) hS ?_
  simp only [Act.put, List.setIfInBounds_toArray, List.set_cons_zero, List.set_cons_succ]
  refine HL_take (i := 1) (.pointer (some ⟨g, 0, none⟩)) (by kernel_rfl) rfl (by omega) (by kernel_rfl) (by kernel_rfl) (by kernel_rfl) (fun _ _ _ h => h) (.inl ⟨by kernel_rfl, fun w' hw' => by obtain ⟨u0, u1⟩ := hw'; go_simp⟩) hS ?_
  simp only [Act.put, List.setIfInBounds_toArray, List.set_cons_zero, List.set_cons_succ]
  refine HL_take (i := 2) (.pointer (some ⟨g, 0, none⟩)) (by kernel_rfl) rfl (by omega) (by kernel_rfl) (by kernel_rfl) (by kernel_rfl) (fun _ _ _ h => h) (.inl ⟨by kernel_rfl, fun w' hw' => by obtain ⟨u0, u1⟩ := hw'; go_simp⟩) hS ?_
  simp only [Act.put, List.setIfInBounds_toArray, List.set_cons_zero, List.set_cons_succ]
  refine HL_take (i := 3) (.pointer (some ⟨g, 5, none⟩)) (by kernel_rfl) rfl (by omega) (by kernel_rfl) (by kernel_rfl) (by kernel_rfl) (fun _ _ _ h => h) (.inl ⟨by kernel_rfl, fun w' hw' => by obtain ⟨u0, u1⟩ := hw'; go_simp⟩) hS ?_
  simp only [Act.put, List.setIfInBounds_toArray, List.set_cons_zero, List.set_cons_succ]
  refine HL_take (i := 4) (mv) (by kernel_rfl) rfl (by omega) (by kernel_rfl) (by kernel_rfl) (by kernel_rfl) (fun _ _ _ h => h) (.inl ⟨by kernel_rfl, fun w' hw' => by obtain ⟨u0, u1⟩ := hw'; go_simp⟩) hS ?_
  simp only [Act.put, List.setIfInBounds_toArray, List.set_cons_zero, List.set_cons_succ]
  refine HL_take (i := 5) (.agg #[.int .i64 (t1.k : Nat), .int .i64 (t1.at' : Nat), .string (textOf t1.s), .int .i64 (t3.k : Nat), .int .i64 (t3.at' : Nat), .string (textOf t3.s), .int .i64 (t5.k : Nat), .int .i64 (t5.at' : Nat), .string (textOf t5.s)]) (by kernel_rfl) rfl (by omega) (by kernel_rfl) (by kernel_rfl) (by kernel_rfl) (fun _ _ _ h => h) (.inl ⟨by kernel_rfl, fun w' hw' => by obtain ⟨u0, u1⟩ := hw'; have y0 : w'.cell? ⟨x, 0, none⟩ = some (.int .i64 (t1.k : Nat)) := (cell_of_block u1 0).trans rfl; have y1 : w'.cell? ⟨x, 1, none⟩ = some (.int .i64 (t1.at' : Nat)) := (cell_of_block u1 1).trans rfl; have y2 : w'.cell? ⟨x, 2, none⟩ = some (.string (textOf t1.s)) := (cell_of_block u1 2).trans rfl; have y3 : w'.cell? ⟨x, 3, none⟩ = some (.int .i64 (t3.k : Nat)) := (cell_of_block u1 3).trans rfl; have y4 : w'.cell? ⟨x, 4, none⟩ = some (.int .i64 (t3.at' : Nat)) := (cell_of_block u1 4).trans rfl; have y5 : w'.cell? ⟨x, 5, none⟩ = some (.string (textOf t3.s)) := (cell_of_block u1 5).trans rfl; have y6 : w'.cell? ⟨x, 6, none⟩ = some (.int .i64 (t5.k : Nat)) := (cell_of_block u1 6).trans rfl; have y7 : w'.cell? ⟨x, 7, none⟩ = some (.int .i64 (t5.at' : Nat)) := (cell_of_block u1 7).trans rfl; have y8 : w'.cell? ⟨x, 8, none⟩ = some (.string (textOf t5.s)) := (cell_of_block u1 8).trans rfl; go_simp⟩) hS ?_
  simp only [Act.put, List.setIfInBounds_toArray, List.set_cons_zero, List.set_cons_succ]
  refine HL_one (i := 6) rfl (by omega) (by kernel_rfl) rfl ?_
  refine wp_value (v := .slice (some ⟨v5.heap.size, 0, none⟩) 1 1) (w' := v5.drew.alloc (.cells #[.int .i64 (t1.k : Nat), .int .i64 (t1.at' : Nat), .string (textOf t1.s), .int .i64 (t3.k : Nat), .int .i64 (t3.at' : Nat), .string (textOf t3.s), .int .i64 (t5.k : Nat), .int .i64 (t5.at' : Nat), .string (textOf t5.s)] 109)) (by go_simp) ?_
  refine ⟨HSA.out, ?_⟩
  simp only [Act.put, List.setIfInBounds_toArray, List.set_cons_zero, List.set_cons_succ]
  refine HL_one (i := 7) rfl (by omega) (by kernel_rfl) rfl ?_
  refine wp_append (.tmp 22) (.tmp 24) 93 93 (by kernel_rfl) mv (.slice (some ⟨v5.heap.size, 0, none⟩) 1 1) (by go_simp) (by go_simp) (fun v' w' => v' = .slice (some ⟨gg, 0, none⟩) n cap ∧ w' = w6) ⟨_, w6, HR6.out, rfl, rfl⟩ ?_
  rintro _ _ ⟨rfl, rfl⟩
  refine ⟨⟨HCM6.out, HX6.out⟩, ?_⟩
  simp only [Act.put, List.setIfInBounds_toArray, List.set_cons_zero, List.set_cons_succ]
  refine ⟨by kernel_rfl, ?_⟩
  simp only [List.drop_succ_cons, List.drop_zero]
  clear hS
  have hcm6 := HCM6.out
  go_wp2_with fail
  refine bodyPost_end (results_none rfl _ _ _) rfl ?_
  rw [HMP.out]
  refine ⟨rfl, _, HP7.out, HO7.out, ?_, ?_, ?_⟩
  · have := HB7.out; rw [HMV.out] at this; exact this
  · have := HM7.out; rw [HMV.out] at this; exact this
  · have := HT.out; rw [HMP.out] at this; exact this
end Go.Proofs.YtonbfcpbgkpbaaaGreatDoor
end
section
/- recipe's parser.rules: what it keeps between two rules. -/
namespace Go.Proofs.YtonbfcpbgkpbaaaGreatDoor
open Go.RowKit Go.Sort Go.Joins
set_option linter.unusedVariables false
set_option linter.unusedSimpArgs false
set_option maxRecDepth 100000
theorem strm_length : ∀ (f : Nat) (l : List UInt8) (p : Nat), (strm f l p).length ≤ l.length + 1 := by
  intro f
  induction f with
  | zero => intro l p; simp [strm]
  | succ f ih =>
    intro l p
    unfold strm
    simp only [List.length_cons]
    split
    · rename_i h5
      have hp := tokL_pos _ h5
      have hd : (l.drop (skipN false l)) ≠ [] := hp.2
      have h0 : 0 < l.length := by
        rcases Nat.eq_zero_or_pos l.length with h0 | h0
        · rw [List.length_eq_zero_iff.1 h0] at hd
          simp at hd
        · exact h0
      have := ih (l.drop (skipN false l + (tokL (l.drop (skipN false l))).2.1)) (p + skipN false l + (tokL (l.drop (skipN false l))).2.1)
      rw [List.length_drop] at this
      omega
    · simp
theorem rest_length (l : List UInt8) (p : Nat) : (rest l p).length ≤ l.length + 1 := by
  have := strm_length (l.length + 1) (l.drop p) p
  rw [List.length_drop] at this
  unfold rest
  omega
theorem spanF_length : ∀ (f : Nat) (st : PS), (spanF f st).1.length + (spanF f st).2.2.length ≤ st.2.length := by
  intro f
  induction f with
  | zero => intro st; simp [spanF]
  | succ f ih =>
    intro st
    cases hm : meetP (mEmpty 3) st with
    | false => rw [spanF_no hm]; simp
    | true =>
      rw [spanF_yes hm]
      have h1 := ih (spanP st).2
      have h2 := spanP_less hm
      simp only [List.length_cons]
      omega
theorem spansP_length (st : PS) : (spansP st).1.length + (spansP st).2.2.length ≤ st.2.length := by
  unfold spansP
  simp only
  have h1 := spanF_length (takeP (sgn sOpen) st).2.2.length (takeP (sgn sOpen) st).2
  have h2 := take_length (sgn sOpen) st
  have h3 := take_length (sgn sShut) (spanF (takeP (sgn sOpen) st).2.2.length (takeP (sgn sOpen) st).2).2
  omega
theorem mergeP_length (st : PS) : (mergeP st).2.2.length ≤ st.2.length := by
  unfold mergeP
  simp only
  have h1 := take_length (mEmpty 4) st
  have h2 := take_length (sgn sPlus) (takeP (mEmpty 4) st).2
  have h3 := take_length (mEmpty 4) (takeP (sgn sPlus) (takeP (mEmpty 4) st).2).2
  have h4 := take_length (sgn sEq) (takeP (mEmpty 4) (takeP (sgn sPlus) (takeP (mEmpty 4) st).2).2).2
  have h5 := take_length (mEmpty 2) (takeP (sgn sEq) (takeP (mEmpty 4) (takeP (sgn sPlus) (takeP (mEmpty 4) st).2).2).2).2
  omega
def Apart (u v : Value) : Prop := ∀ i, u.ownBlock = some i → v.ownBlock ≠ some i
theorem Apart.symm {u v : Value} (h : Apart u v) : Apart v u := fun i hi hu => h i hu hi
/-- What a parser's lists are. -/
structure DO (w : World) (base : Nat) (d : DV) (r : RD) : Prop where
  oM : OwnG 109 9 encW w base d.M r.M
  oA : OwnG 41 2 encS w base d.A r.A
  oB : OwnG 41 2 encS w base d.B r.B
  oC : OwnG 41 2 encS w base d.C r.C
  dAB : Apart d.A d.B
  dAC : Apart d.A d.C
  dBC : Apart d.B d.C
  w0 : d.W0 = .slice none 0 0
  m0 : d.M0 = .slice none 0 0
theorem OwnG.types {α β : Type} {T S : TypeId} {k j : Nat} {enc : α → List Value} {enc' : β → List Value} {w : World} {base base' : Nat} {u v : Value} {l : List α} {l' : List β} (h : OwnG T k enc w base u l) (h' : OwnG S j enc' w base' v l') (hne : T ≠ S) : Apart u v := fun i hi hv => by
  obtain ⟨-, -, c, hc⟩ := h.block hi
  obtain ⟨-, -, c', hc'⟩ := h'.block hv
  rw [hc] at hc'
  injection hc' with hc'
  injection hc' with _ ht
  exact hne ht
theorem DO.but {w w' : World} {base g B : Nat} {d : DV} {r : RD} (h : DO w base d r) (hb : But g B w w') (hB : w.heap.size ≤ B) (hg : g < base) : DO w' base d r :=
  ⟨h.oM.but hb hB hg, h.oA.but hb hB hg, h.oB.but hb hB hg, h.oC.but hb hB hg, h.dAB, h.dAC, h.dBC, h.w0, h.m0⟩
theorem OwnG.keep {α : Type} {T : TypeId} {k : Nat} {enc : α → List Value} {w w' : World} {base g : Nat} {u v : Value} {l : List α} (h : OwnG T k enc w base v l) (hb : Bu g u.ownBlock w.heap.size w w') (hg : g < base) (ha : Apart u v) : OwnG T k enc w' base v l :=
  h.bu hb (Nat.le_refl _) hg (fun i hi e => ha i e.symm hi)
theorem Apart.moved {α : Type} {T : TypeId} {k : Nat} {enc : α → List Value} {w : World} {base B : Nat} {u u' v : Value} {l : List α} (h : Apart u v) (hm : Moved u u' B) (ho : OwnG T k enc w base v l) (hB : w.heap.size ≤ B) : Apart u' v := fun i hi hv => by
  rcases hm i hi with h1 | h1
  · exact h i h1 hv
  · have := (ho.block hv).2.1
    omega
def RD.get (r : RD) (o : Nat) : List Sp := if o = 8 then r.A else if o = 9 then r.B else r.C
def RD.add (r : RD) (o : Nat) (l : List Sp) : RD := if o = 8 then { r with A := r.A ++ l } else if o = 9 then { r with B := r.B ++ l } else { r with C := r.C ++ l }
theorem span_ne : 41 ≠ 109 := by decide
theorem DO.own {w : World} {base : Nat} {d : DV} {r : RD} (h : DO w base d r) {o : Nat} (ho : o = 8 ∨ o = 9 ∨ o = 10) : OwnG 41 2 encS w base (d.get o) (r.get o) := by
  rcases ho with rfl | rfl | rfl
  · exact h.oA
  · exact h.oB
  · exact h.oC
theorem DO.span {w w' : World} {base g : Nat} {d : DV} {r : RD} (h : DO w base d r) {o : Nat} (ho : o = 8 ∨ o = 9 ∨ o = 10) {v : Value} {l : List Sp} (hv : OwnG 41 2 encS w' base v (r.get o ++ l)) (hb : Bu g (d.get o).ownBlock w.heap.size w w') (hm : Moved (d.get o) v w.heap.size) (hg : g < base) : DO w' base (d.set o v) (r.add o l) := by
  rcases ho with rfl | rfl | rfl
  · have hb : Bu g d.A.ownBlock w.heap.size w w' := hb
    have hm : Moved d.A v w.heap.size := hm
    exact ⟨h.oM.keep hb hg (h.oA.types h.oM span_ne), hv, h.oB.keep hb hg h.dAB, h.oC.keep hb hg h.dAC, h.dAB.moved hm h.oB (Nat.le_refl _), h.dAC.moved hm h.oC (Nat.le_refl _), h.dBC, h.w0, h.m0⟩
  · have hb : Bu g d.B.ownBlock w.heap.size w w' := hb
    have hm : Moved d.B v w.heap.size := hm
    exact ⟨h.oM.keep hb hg (h.oB.types h.oM span_ne), h.oA.keep hb hg h.dAB.symm, hv, h.oC.keep hb hg h.dBC, (h.dAB.symm.moved hm h.oA (Nat.le_refl _)).symm, h.dAC, h.dBC.moved hm h.oC (Nat.le_refl _), h.w0, h.m0⟩
  · have hb : Bu g d.C.ownBlock w.heap.size w w' := hb
    have hm : Moved d.C v w.heap.size := hm
    exact ⟨h.oM.keep hb hg (h.oC.types h.oM span_ne), h.oA.keep hb hg h.dAC.symm, h.oB.keep hb hg h.dBC.symm, hv, h.dAB, (h.dAC.symm.moved hm h.oA (Nat.le_refl _)).symm, (h.dBC.symm.moved hm h.oB (Nat.le_refl _)).symm, h.w0, h.m0⟩
theorem DO.merge {w w' : World} {base g : Nat} {d : DV} {r : RD} (h : DO w base d r) {v : Value} {x : Wr} (hv : OwnG 109 9 encW w' base v (r.M ++ [x])) (hb : Bu g d.M.ownBlock w.heap.size w w') (hg : g < base) : DO w' base { d with M := v } { r with M := r.M ++ [x] } :=
  ⟨hv, h.oA.keep hb hg (h.oA.types h.oM span_ne).symm, h.oB.keep hb hg (h.oB.types h.oM span_ne).symm, h.oC.keep hb hg (h.oC.types h.oM span_ne).symm, h.dAB, h.dAC, h.dBC, h.w0, h.m0⟩
/-- How long a parser's lists are. -/
def RD.le (r : RD) (n : Nat) : Prop := r.M.length ≤ n ∧ r.A.length ≤ n ∧ r.B.length ≤ n ∧ r.C.length ≤ n
theorem rulesF_bad (f : Nat) (ts : List Tok) (d : RD) : rulesF f (true, ts) d = (d, (true, ts)) := by
  cases f with
  | zero => rfl
  | succ f => rw [rulesF, if_neg (by simp)]
theorem rulesF_end (f : Nat) (st : PS) (d : RD) (h : headK st = 8) : rulesF f st d = (d, st) := by
  cases f with
  | zero => rfl
  | succ f => rw [rulesF, if_neg (by simp [h])]
theorem rulesF_next (f : Nat) (st : PS) (d : RD) (h : st.1 = false) (h8 : headK st ≠ 8) : rulesF (f + 1) st d = rulesF f (ruleP st d).2 (ruleP st d).1 := by
  rw [rulesF, if_pos ⟨h, h8⟩]
/-- What stands between two rules. -/
def RuI (w : World) (g base : Nat) (src : ByteArray) (st0 : PS) (f0 N f : Nat) (wr : World) : Prop :=
  ∃ (st : PS) (r : RD) (d : DV), PX wr g src st d ∧ DO wr base d r ∧ But g w.heap.size w wr ∧ Toks st ∧ (st.1 = false → st.2.length ≤ f) ∧ r.le (N - st.2.length) ∧ st.2.length ≤ N ∧ rulesF f0 st0 ⟨[], [], [], []⟩ = rulesF f st r
end Go.Proofs.YtonbfcpbgkpbaaaGreatDoor
end
section
/- Maps from texts to numbers: what they hold, as a function; a key may be written again. -/
namespace Go.Proofs.YtonbfcpbgkpbaaaGreatDoor
open Go.RowKit Go.Sort Go.Joins Go.Maps
set_option linter.unusedVariables false
/-- Block b is a map of n texts to numbers; f tells what it holds. -/
def MapS (w : World) (b n : Nat) (f : ByteArray → Option Nat) : Prop :=
  ∃ D : DataW Unit, w.ownsMap Tryz.prog 9 (plainElem Tryz.prog 3) b n D ∧ ∀ x l, keyOf Tryz.prog 9 (.string x) = some l → Maps.has D l = (f x).isSome ∧ ∀ a, f x = some a → ∀ z, D.atKey l z = .lit (.int .i64 (a : Nat))
theorem lawS : Keyed Tryz.prog 9 := string_keyed Tryz.underlying9
theorem und3 : Tryz.prog.underlying 3 = some (.int .i64) := by kernel_rfl
theorem zero3 (w : World) : (zeroValue 3).run Tryz.prog w = .ok (.int .i64 0) w := by kernel_rfl
theorem MapS.made (w : World) : MapS (w.alloc (.map #[] 0)) w.heap.size 0 (fun _ => none) :=
  ⟨.map [], World.ownsMap_made _ _ _ _, fun _ _ _ => ⟨rfl, fun _ h => by cases h⟩⟩
theorem MapS.kept {w w' : World} {b n : Nat} {f : ByteArray → Option Nat} (h : MapS w b n f) (hk : w'.heap[b]? = w.heap[b]?) : MapS w' b n f := by
  obtain ⟨D, ⟨es, clock, hb, F, hs, hD⟩, h2⟩ := h
  exact ⟨D, ⟨es, clock, hk.trans hb, F, hs, hD⟩, h2⟩
theorem MapS.lt {w : World} {b n : Nat} {f : ByteArray → Option Nat} (h : MapS w b n f) : b < w.heap.size := by
  obtain ⟨D, h1, _⟩ := h
  exact h1.lt
theorem keyS (x : ByteArray) (h : x.size ≤ 4611686018427387904) : keyOf Tryz.prog 9 (.string x) = some (.string x.data.toList) := Go.WideMaps.keyOf_string_mk Tryz.underlying9 (by unfold maxLen; omega)
theorem MapS.look {w : World} {b n : Nat} {f : ByteArray → Option Nat} {t : TypeId} (h : MapS w b n f) (ht : Tryz.prog.underlying t = some (.map 9 3)) {x : ByteArray} {l : Lit} (hk : keyOf Tryz.prog 9 (.string x) = some l) :
    (Instr.lookup t (.map (some b)) (.string x) true).run Tryz.prog w = .ok (.tuple #[.int .i64 (((f x).getD 0 : Nat) : Int), .bool (f x).isSome]) w := by
  obtain ⟨D, h1, h2⟩ := h
  obtain ⟨v, ps, hrun, hv⟩ := h1.look_ok lawS ht (zero3 w) (zd := .lit (.int .i64 0)) (zp := []) (plainElem_int und3 (by decide)) hk
  obtain ⟨e1, e2⟩ := h2 x l hk
  obtain ⟨c, rfl, hc, -⟩ := plainElem_int_inv und3 hv
  rw [hrun, e1]
  have hc := congrArg Prod.fst hc
  simp only at hc
  cases hf : f x with
  | some a =>
    rw [e2 a hf] at hc
    simp at hc
    subst hc; rfl
  | none =>
    rw [hf] at e1
    rw [Maps.atKey_of_not_has e1] at hc
    simp at hc
    rw [← hc]; rfl
/-- A key is written, be it there or not. -/
theorem MapS.put {w : World} {b n : Nat} {f : ByteArray → Option Nat} {t : TypeId} (h : MapS w b n f) (ht : Tryz.prog.underlying t = some (.map 9 3)) (hn : n < maxLen) {x : ByteArray} {l : Lit} (hk : keyOf Tryz.prog 9 (.string x) = some l) {a : Nat} (ha : a ≤ 9223372036854775807) :
    ∃ w', (Instr.mapUpdate t (.map (some b)) (.string x) (.int .i64 (a : Nat))).run Tryz.prog w = .ok () w' ∧ MapS w' b (n + 1) (fun y => if y = x then some a else f y) ∧ w.grownBy w' (some b) := by
  obtain ⟨D, h1, h2⟩ := h
  have hw : (Lit.int .i64 ((a : Nat) : Int)).wf = true := WalkArith.wf_i64 (by omega)
  obtain ⟨w', hrun, r1, r2⟩ := h1.store lawS ht hn hk (plainElem_int (H := Unit) und3 hw)
  refine ⟨w', hrun, ⟨_, r1, ?_⟩, r2.grown⟩
  intro y l' hy
  by_cases hxy : y = x
  · subst hxy
    have : l' = l := Option.some.inj (hy.symm.trans hk)
    subst this
    have e0 : (fun z => if z = y then some a else f z) y = some a := if_pos rfl
    rw [e0]
    refine ⟨Maps.has_put_same h1.isMap (lawS.key hk) _, fun c hc z => ?_⟩
    obtain rfl := Option.some.inj hc
    exact Maps.atKey_put_same h1.isMap (lawS.key hk) _ _
  · have hl : l' ≠ l := fun e => hxy (by have := lawS.inj (e ▸ hy) hk; cases this; rfl)
    have e0 : (fun z => if z = x then some a else f z) y = f y := if_neg hxy
    rw [e0, Maps.has_put_other hl]
    obtain ⟨c1, c2⟩ := h2 y l' hy
    exact ⟨c1, fun c hc z => by rw [Maps.atKey_put_other hl]; exact c2 c hc z⟩
/-- What a list of made words says of a text. -/
def FM (made : List (List UInt8 × Nat)) (x : ByteArray) : Option Nat := (made.find? fun y => y.1 == tl x).map (·.2)
theorem FM_cons (made : List (List UInt8 × Nat)) (s : List UInt8) (v : Nat) : FM ((s, v) :: made) = fun y => if y = textOf s then some v else FM made y := by
  funext y
  unfold FM
  by_cases h : y = textOf s
  · subst h
    rw [if_pos rfl, List.find?_cons_of_pos (by simp [tl, textOf])]
    rfl
  · rw [if_neg h, List.find?_cons_of_neg]
    intro e
    have e : s = tl y := by simpa using e
    apply h
    rw [e]
    rfl
end Go.Proofs.YtonbfcpbgkpbaaaGreatDoor
end
section
/- recipe's meaning: the closure that tells a word's id. -/
namespace Go.Proofs.YtonbfcpbgkpbaaaGreatDoor
open Go.RowKit Go.Sort Go.Joins
set_option linter.unusedVariables false
set_option maxRecDepth 100000
theorem idOfP_one (made : List (List UInt8 × Nat)) (c : UInt8) : idOfP made [c] = some c.toNat := rfl
theorem idOfP_more (made : List (List UInt8 × Nat)) {s : List UInt8} (h : s.length ≠ 1) : idOfP made s = FM made (textOf s) := by
  unfold idOfP FM
  cases s with
  | nil => rfl
  | cons a s => cases s with
    | nil => simp at h
    | cons b s => rfl
set_option maxHeartbeats 1000000 in
theorem idOf_any (cb mb n : Nat) (made : List (List UInt8 × Nat)) (s : List UInt8) (w : World) (hs : s.length ≤ 4611686018427387904) (hM : MapS w mb n (FM made)) (hc : w.cell? ⟨cb, 0, none⟩ = some (.map (some mb))) :
    Calls Tryz.prog 58 #[.string (textOf s), .pointer (some ⟨cb, 0, none⟩)] w fun e w' => e = .returned (.tuple #[.int .i64 (((idOfP made s).getD 0 : Nat) : Int), .bool (idOfP made s).isSome]) ∧ w' = w := by
  have hz : (textOf s).size = s.length := by simp [textOf, ByteArray.size]
  by_cases h1 : s.length = 1
  · obtain ⟨c, rfl⟩ : ∃ c, s = [c] := List.length_eq_one_iff.1 h1
    have h0 : (((textOf [c]).size : Int) == 1) = true := by rw [hz]; rfl
    have hb := UInt8.toNat_lt c
    rw [idOfP_one]
    have hx : ∀ wx : World, (Instr.index 9 (.string (textOf [c])) (.int .i64 0)).run Tryz.prog wx = .ok (.int .u8 (c.toNat : Nat)) wx := fun wx => by kernel_rfl
    generalize textOf [c] = x at *
    go_enter Tryz.func58, Tryz.ntmps58
    go_wp2_with fail
    exact bodyPost_ret (v := .tuple #[.int .i64 (c.toNat : Nat), .bool true]) (by simp [results, Tryz.results58, go_sem]) rfl ⟨rfl, rfl⟩
  · have h0 : (((textOf s).size : Int) == 1) = false := by rw [hz]; simp; omega
    have hk := keyS (textOf s) (by omega)
    have hl := hM.look (t := 75) Tryz.underlying75 hk
    rw [idOfP_more made h1]
    generalize FM made (textOf s) = r at *
    generalize textOf s = x at *
    go_enter Tryz.func58, Tryz.ntmps58
    go_wp2_with fail
    exact bodyPost_ret (v := .tuple #[.int .i64 ((r.getD 0 : Nat) : Int), .bool r.isSome]) (by simp [results, Tryz.results58, go_sem]) rfl ⟨rfl, rfl⟩
end Go.Proofs.YtonbfcpbgkpbaaaGreatDoor
end
section
/- recipe's meaning: what is known of the merges' tokens; steps. -/
namespace Go.Proofs.YtonbfcpbgkpbaaaGreatDoor
open Go.RowKit Go.Sort Go.Joins
set_option linter.unusedVariables false
theorem wordW_len : ∀ (l : List UInt8) (k : Nat) (h : UInt8), (wordW k h l).2.2.length ≤ l.length := by
  intro l
  induction l with
  | nil => intro k h; rcases k with _ | _ | k <;> simp [wordW]
  | cons c l ih =>
    intro k h
    have hc : ∀ (x : UInt8) (R : Nat × Nat × List UInt8), R.2.2.length ≤ l.length → (wCons x R).2.2.length ≤ (c :: l).length := fun x R hR => by
      simp only [wCons, List.length_cons]; omega
    have hs : ∀ (R : Nat × Nat × List UInt8), R.2.2.length ≤ l.length → (wStep R).2.2.length ≤ (c :: l).length := fun R hR => by
      simp only [wStep, List.length_cons]; omega
    rcases k with _ | _ | k
    · unfold wordW
      split
      · simp
      · split
        · exact hs _ (ih _ _)
        · split
          · exact hc _ _ (ih _ _)
          · simp
    · unfold wordW
      split
      · exact hc _ _ (ih _ _)
      · split
        · exact hs _ (ih _ _)
        · simp
    · unfold wordW
      split
      · exact hc _ _ (ih _ _)
      · simp
theorem tokL_len (l : List UInt8) : (tokL l).2.2.length ≤ l.length := by
  have hb : ∀ k n, (bounded k n l).2.2.length ≤ l.length := fun k n => by unfold bounded; simp only [List.length_take]; omega
  cases l with
  | nil => simp [tokL]
  | cons c l' =>
    unfold tokL
    simp only
    split
    · show (wordT (wordW 0 0 l')).length ≤ _
      unfold wordT
      have := wordW_len l' 0 0
      split
      · simp only [List.length_cons]; omega
      · simp
    · repeat' split
      all_goals first | exact hb _ _ | (simp only [List.length_take, List.length_cons, List.length_nil]; omega)
theorem strm_len : ∀ (f : Nat) (l : List UInt8) (p : Nat), ∀ t ∈ strm f l p, t.s.length ≤ l.length := by
  intro f
  induction f with
  | zero => intro l p t ht; simp [strm] at ht
  | succ f ih =>
    intro l p t ht
    unfold strm at ht
    simp only at ht
    rcases List.mem_cons.1 ht with rfl | ht
    · have := tokL_len (l.drop (skipN false l))
      rw [List.length_drop] at this
      show (tokL (l.drop (skipN false l))).2.2.length ≤ _
      omega
    · split at ht
      · have := ih _ _ t ht
        rw [List.length_drop] at this
        omega
      · simp at ht
/-- No token's text is longer than n. -/
def Lens (n : Nat) (st : PS) : Prop := ∀ t ∈ st.2, t.s.length ≤ n
theorem Lens.take {n : Nat} {st : PS} (h : Lens n st) (m : Tok → Bool) : Lens n (takeP m st).2 ∧ (takeP m st).1.s.length ≤ n := by
  obtain ⟨bad, ts⟩ := st
  cases ts with
  | nil => cases bad <;> exact ⟨h, Nat.zero_le _⟩
  | cons t ts =>
    cases bad with
    | true => exact ⟨h, Nat.zero_le _⟩
    | false =>
      show Lens n (if m t = true then (t, (false, ts)) else (zeroT, (true, t :: ts))).2 ∧ (if m t = true then (t, (false, ts)) else (zeroT, (true, t :: ts))).1.s.length ≤ n
      by_cases hm : m t = true
      · rw [if_pos hm]
        exact ⟨fun x hx => h x (List.mem_cons_of_mem _ hx), h t (List.mem_cons_self ..)⟩
      · rw [if_neg hm]
        exact ⟨h, Nat.zero_le _⟩
theorem take_kindE (k : Nat) (st : PS) : (takeP (mEmpty k) st).1 = zeroT ∨ (takeP (mEmpty k) st).1.k = k := by
  obtain ⟨bad, ts⟩ := st
  cases ts with
  | nil => cases bad <;> exact .inl rfl
  | cons t ts =>
    cases bad with
    | true => exact .inl rfl
    | false =>
      show (if mEmpty k t = true then (t, (false, ts)) else (zeroT, (true, t :: ts))).1 = zeroT ∨ (if mEmpty k t = true then (t, (false, ts)) else (zeroT, (true, t :: ts))).1.k = k
      by_cases hm : mEmpty k t = true
      · rw [if_pos hm]
        exact .inr (by simpa [mEmpty] using hm)
      · rw [if_neg hm]
        exact .inl rfl
/-- A merge as it is written, whose tokens are right. -/
def WrOk (n : Nat) (x : Wr) : Prop := x.l.s.length ≤ n ∧ x.r.s.length ≤ n ∧ x.i.s.length ≤ 10 ∧ ∀ c ∈ x.i.s, capB c = true
/-- What is still to come is right. -/
def Fit (n : Nat) (st : PS) : Prop := Toks st ∧ Lens n st
theorem Fit.take {n : Nat} {st : PS} (h : Fit n st) (m : Tok → Bool) : Fit n (takeP m st).2 := ⟨(h.1.take m).1, (h.2.take m).1⟩
theorem Fit.merge {n : Nat} {st : PS} (h : Fit n st) : Fit n (mergeP st).2 ∧ WrOk n (mergeP st).1 := by
  have h1 := h.take (mEmpty 4)
  have h2 := h1.take (sgn sPlus)
  have h3 := h2.take (mEmpty 4)
  have h4 := h3.take (sgn sEq)
  have h5 := h4.take (mEmpty 2)
  refine ⟨h5, (h.2.take (mEmpty 4)).2, (h2.2.take (mEmpty 4)).2, ?_⟩
  have hk := (h4.1.take (mEmpty 2)).2
  rcases take_kindE 2 (takeP (sgn sEq) (takeP (mEmpty 4) (takeP (sgn sPlus) (takeP (mEmpty 4) st).2).2).2).2 with h0 | h0
  · show ((takeP (mEmpty 2) (takeP (sgn sEq) (takeP (mEmpty 4) (takeP (sgn sPlus) (takeP (mEmpty 4) st).2).2).2).2).1).s.length ≤ 10 ∧ _
    refine ⟨by rw [h0]; simp [zeroT], fun c hc => ?_⟩
    have hc : c ∈ ((takeP (mEmpty 2) (takeP (sgn sEq) (takeP (mEmpty 4) (takeP (sgn sPlus) (takeP (mEmpty 4) st).2).2).2).2).1).s := hc
    rw [h0] at hc
    simp [zeroT] at hc
  · exact hk.2 h0
theorem Fit.spanF {n : Nat} : ∀ (f : Nat) (st : PS), Fit n st → Fit n (Proofs.YtonbfcpbgkpbaaaGreatDoor.spanF f st).2 := by
  intro f
  induction f with
  | zero => intro st h; exact h
  | succ f ih =>
    intro st h
    cases hm : meetP (mEmpty 3) st with
    | false => rw [spanF_no hm]; exact h
    | true =>
      rw [spanF_yes hm]
      refine ih _ ?_
      unfold spanP
      simp only
      split
      · exact ((h.take _).take _).take _
      · exact h.take _
theorem Fit.spans {n : Nat} {st : PS} (h : Fit n st) : Fit n (spansP st).2 := by
  unfold spansP
  exact (Fit.spanF _ _ (h.take _)).take _
theorem Fit.rules {n : Nat} : ∀ (f : Nat) (st : PS) (r : RD), Fit n st → (∀ x ∈ r.M, WrOk n x) → ∀ x ∈ (rulesF f st r).1.M, WrOk n x := by
  intro f
  induction f with
  | zero => intro st r h hr; exact hr
  | succ f ih =>
    intro st r h hr
    unfold rulesF
    split
    · have h1 := h.take nameM
      unfold ruleP
      simp only
      split
      · refine ih _ _ h1.merge.1 ?_
        intro x hx
        rcases List.mem_append.1 hx with hx | hx
        · exact hr x hx
        · rw [List.mem_singleton.1 hx]
          exact h1.merge.2
      · split
        · exact ih _ _ h1.spans hr
        · split
          · exact ih _ _ h1.spans hr
          · split
            · exact ih _ _ h1.spans hr
            · exact ih _ _ h1 hr
    · exact hr
theorem rules_fit (l : List UInt8) (hl : l.length ≤ 4194304) : ∀ x ∈ (rulesF (rest l 0).length (false, rest l 0) ⟨[], [], [], []⟩).1.M, WrOk 4194304 x := by
  refine Fit.rules _ _ _ ⟨fun t ht => strm_ok _ _ _ t ht, fun t ht => ?_⟩ (fun x hx => by cases hx)
  have ht : t ∈ strm (l.length + 1) (l.drop 0) 0 := ht
  have := strm_len _ _ _ t ht
  rw [List.drop_zero] at this
  omega
theorem digV_le {c : UInt8} (h : capB c = true) : digV c ≤ 15 := by
  unfold capB digitB at h
  unfold digV
  simp only [Bool.or_eq_true, Bool.and_eq_true, decide_eq_true_eq] at h
  split
  · omega
  · split <;> omega
theorem valF_le : ∀ (s : List UInt8) (n k : Nat), (∀ c ∈ s, capB c = true) → n + 1 ≤ 16 ^ k → valF 10 n s + 1 ≤ 16 ^ (k + s.length) := by
  intro s
  induction s with
  | nil => intro n k _ hn; simpa [valF] using hn
  | cons c s ih =>
    intro n k hc hn
    unfold valF
    have hd : digV c ≤ 15 := digV_le (hc c (List.mem_cons_self ..))
    have h1 : n * 10 + digV c + 1 ≤ 16 ^ (k + 1) := by
      rw [Nat.pow_succ]
      omega
    have := ih _ (k + 1) (fun x hx => hc x (List.mem_cons_of_mem _ hx)) h1
    rw [List.length_cons]
    rw [show k + (s.length + 1) = k + 1 + s.length by omega]
    exact this
theorem val_small {s : List UInt8} (h : s.length ≤ 10) (hc : ∀ c ∈ s, capB c = true) : valF 10 0 s ≤ 1099511627776 := by
  have h1 := valF_le s 0 0 hc (by decide)
  have h2 : (16 : Nat) ^ (0 + s.length) ≤ 16 ^ 10 := Nat.pow_le_pow_right (by omega) (by omega)
  have h3 : (16 : Nat) ^ 10 = 1099511627776 := by decide
  omega
end Go.Proofs.YtonbfcpbgkpbaaaGreatDoor
end
