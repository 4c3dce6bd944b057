/- A region that draws its order: moves may be taken first; so may a load that yields the same on either side of a call. -/
import Derived.Test.YtmfbeelnhihlaaaProg
import Derived.WalkKit
import Derived.OrdersHeld
namespace Go.Proofs.Ytmfbeelnhihlaaa
open Go.RowKit
section
variable {P : Program} {ops : Array Oper} {md : Region.Mode} {Q : Exit → Act → World → Prop} {S : World → Prop}
/-- From here on just one operation may come up at a time: those numbered is. -/
def oneB (md : Region.Mode) (ops : Array Oper) : List Nat → Array Bool → Bool
  | [], listed => decide (Region.ready md ops listed = [])
  | i :: is, listed => decide (Region.ready md ops listed = [i]) && oneB md ops is (listed.setIfInBounds i true)
def pick (l : List Oper) : List Nat → List Oper
  | [] => []
  | i :: is => (l.drop i).take 1 ++ pick l is
theorem wpAny_one (l : List Oper) : ∀ (is : List Nat) (listed : Array Bool) (a : Act) (w : World), (∀ i ∈ is, i < l.length) → oneB md l.toArray is listed = true →
    wpList P l.toArray Q (pick l is) a w → wpAny P md l.toArray Q is.length listed a w
  | [], _, _, _, _, hB, h => ⟨of_decide_eq_true hB, h⟩
  | i :: is, listed, a, w, hl, hB, h => by
    simp only [oneB, Bool.and_eq_true, decide_eq_true_eq] at hB
    have hi := hl i (List.mem_cons_self ..)
    have h0 : l.toArray[i]? = some l[i] := by simp [hi]
    have h1 : pick l (i :: is) = l[i] :: pick l is := by
      show (l.drop i).take 1 ++ pick l is = _
      rw [List.drop_eq_getElem_cons hi]
      rfl
    rw [h1] at h
    refine ⟨fun e => (by rw [hB.1] at e; cases e), fun k hk => ?_⟩
    rw [hB.1] at hk
    obtain rfl : k = i := by simpa using hk
    have hw : wpOp P l.toArray Q k (wpList P l.toArray Q (pick l is)) a w := by unfold wpOp; simp only [h0]; exact h
    exact wpOp_mono (fun a' w' h' => wpAny_one l is _ a' w' (fun j hj => hl j (List.mem_cons_of_mem _ hj)) hB.2 h') hw
/-- A move may be taken first. -/
theorem wpAny_move {i fuel : Nat} {oi : Oper} (x : Operand) {listed : Array Bool} {a : Act} {w : World} (hi : ops[i]? = some oi) (ho : oi.op = .move x) (hg : oi.guard = none)
    (hs : Region.noSelect ops = true) (hf : Region.free md ops listed i = true) (hr : (Region.ready md ops listed).contains i = true)
    (hQ : ∀ c (a' : Act) w v, Q (.panic c) (a'.put oi.dst v) w → Q (.panic c) a' w)
    (h : wpAny P md ops Q fuel (listed.setIfInBounds i true) (a.put oi.dst (a.eval x)) w) : wpAny P md ops Q (fuel + 1) listed a w :=
  wpAny_take hi hs hf hr (fun c a' w' h => hQ c a' w' _ h) (.inl ⟨by simp [Region.wanted, hg], fun w' => by simp [execOp, ho, Sem.run_pure]⟩) h
/-- Two may come up: a load, which yields the same on either side of the other. It is taken first; behind the two one at a time. -/
theorem wpAny_load {i j : Nat} {oi oj : Oper} {u : Value} {listed : Array Bool} {a : Act} {w : World} (l : List Oper) (is : List Nat) (hi : l.toArray[i]? = some oi) (hj : l.toArray[j]? = some oj)
    (hs : Region.noSelect l.toArray = true) (hap : oj.apart l.toArray oi = true) (hij : i ≠ j)
    (hr : Region.ready md l.toArray listed = [i, j]) (hri : Region.ready md l.toArray (listed.setIfInBounds i true) = [j]) (hrj : Region.ready md l.toArray (listed.setIfInBounds j true) = [i])
    (hB : oneB md l.toArray is ((listed.setIfInBounds j true).setIfInBounds i true) = true) (hl : ∀ i ∈ is, i < l.length)
    (hQ : ∀ c (a' : Act) w v, Q (.panic c) (a'.put oj.dst v) w → Q (.panic c) a' w)
    (hy : YieldsIf P l.toArray S oj u a) (hS : S w) (hg : oi.guard = none)
    (h : ∀ K : Act → World → Prop, (∀ a' w', S w' → wpList P l.toArray Q (pick l is) a' w' → K a' w') → oi.wp P (a.put oj.dst u) w K Q) :
    wpAny P md l.toArray Q (is.length + 2) listed a w := by
  have hsel := Region.noSelect_spec hs
  have h1 : wpOp P l.toArray Q i (fun a' w' => S w' ∧ wpAny P md l.toArray Q is.length ((listed.setIfInBounds j true).setIfInBounds i true) a' w') (a.put oj.dst u) w := by
    unfold wpOp
    simp only [hi, Region.wanted, hg, if_true]
    exact .inl (h _ fun a' w' hs' hw' => ⟨hs', wpAny_one l is _ a' w' hl hB hw'⟩)
  refine ⟨fun e => (by rw [hr] at e; cases e), fun k hk => ?_⟩
  rw [hr] at hk
  have hk' : k = i ∨ k = j := by simpa using hk
  rcases hk' with rfl | rfl
  · have h2 := wpOp_putIf hi hap (fun cs b => hsel j oj cs b hj) (fun cs b => hsel k oi cs b hi) (fun c a' w' h => hQ c a' w' _ h) hy h1
    refine wpOp_mono (fun a' w' h3 => ?_) h2
    refine ⟨fun e => (by rw [hri] at e; cases e), fun m hm => ?_⟩
    rw [hri] at hm
    obtain rfl : m = j := by simpa using hm
    refine h3.1.wpOp hj h3.2.1 ?_
    rw [Array.setIfInBounds_comm _ _ hij]
    exact h3.2.2
  · refine hy.wpOp hj hS ?_
    refine ⟨fun e => (by rw [hrj] at e; cases e), fun m hm => ?_⟩
    rw [hrj] at hm
    obtain rfl : m = i := by simpa using hm
    exact wpOp_mono (fun a' w' h3 => h3.2) h1
end
end Go.Proofs.Ytmfbeelnhihlaaa
