import Derived.Test.YtjbdhakogbolkaaDoorJ13
import Derived.RangeFuncNested
import Derived.RangeFuncBound
import Derived.RangeFuncCalls
import Derived.RangeFuncLeaves
import Derived.RangeFuncBox
section
/- bpe's row: join: its contract. -/
namespace Go.Proofs.YtjbdhakogbolkaaDoor
open Go.RowKit Go.Joins Go.Sort
set_option linter.unusedVariables false
set_option linter.unusedSimpArgs false
set_option maxRecDepth 100000
theorem RowAt.set {w : World} {base r mg ib cg cb hg : Nat} {ia : Option Addr} {ic n : Nat} {hv : Value} {inn : Nat → Bool} {ids : Nat → Int} {cnt : Int} {H : List HQ.El} (h : RowAt w base r mg ib cg cb hg ia ic n hv inn ids cnt H) (hn : 0 < n) (k : Nat) (v : Int) : RowAt (w.setCell ⟨ib, k, none⟩ (.int .i64 v)) base r mg ib cg cb hg ia ic n hv inn (updI ids k v) cnt H := by
  obtain ⟨h1, h2, h3, h4, h5, h6, h7, h8⟩ := h.ids.resolve_left (by omega)
  have bl : ∀ j, j ≠ ib → (w.setCell ⟨ib, k, none⟩ (.int .i64 v)).heap[j]? = w.heap[j]? := fun j hj => Below.heap_setCell w ⟨ib, k, none⟩ _ j hj
  have hc := h.hp
  have hg1 : w.grownBy (w.setCell ⟨ib, k, none⟩ (.int .i64 v)) (some ib) := ⟨rfl, rfl, rfl, by simp, fun j _ hj => bl j (fun e => hj (by rw [e]))⟩
  exact ⟨(bl r (fun e => h4 e.symm)).trans h.own, .inr ⟨h1, h2.set k v, h3, h4, h5, h6, h7, h8⟩, h.ch.kept (bl cg (fun e => h5 e.symm)) (bl cb (fun e => h6 e.symm)), ⟨hc.low, hc.at_.grown hg1 (fun e => h7 e.symm), hc.row.grown hg1 (.inr (by simpa using h8)), hc.ne⟩, h.low, h.ne⟩
theorem RowAt.cut {w w' : World} {base r mg ib cg cb hg : Nat} {ia : Option Addr} {ic n : Nat} {hv : Value} {inn inn' : Nat → Bool} {ids : Nat → Int} {cnt cnt' : Int} {H : List HQ.El} (h : RowAt w base r mg ib cg cb hg ia ic n hv inn ids cnt H) (hC : CH.Ch w' cg cb n inn' cnt') (ht : CH.Tn cg cb w w') : RowAt w' base r mg ib cg cb hg ia ic n hv inn' ids cnt' H := by
  have bl : ∀ j, j < w.heap.size → j ≠ cg → j ≠ cb → w'.heap[j]? = w.heap[j]? := ht.block
  have hc := h.hp
  have hrow : HQ.RowE w' base hv H := by
    refine ⟨hc.row.1, ?_⟩
    rcases hc.row.2 with h0 | ⟨b, cap, cur, rfl, hb, hh, rr⟩
    · exact .inl h0
    · refine .inr ⟨b, cap, cur, rfl, hb, ?_, rr⟩
      rw [bl b (Array.getElem?_eq_some_iff.1 hh).1 (fun e => h.ne.2.2.2.2.2.2.1 (by rw [← e]; rfl)) (fun e => h.ne.2.2.2.2.2.2.2 (by rw [← e]; rfl))]
      exact hh
  refine ⟨(bl r h.own.lt h.ne.1 h.ne.2.1).trans h.own, ?_, hC, ⟨hc.low, (bl hg hc.lt h.ne.2.2.2.1 h.ne.2.2.2.2.1).trans hc.at_, hrow, hc.ne⟩, h.low, h.ne⟩
  rcases h.ids with h0 | ⟨h1, h2, h3, h4, h5, h6, h7, h8⟩
  · exact .inl h0
  · exact .inr ⟨h1, h2.kept (bl ib h2.lt h5 h6), h3, h4, h5, h6, h7, h8⟩
theorem updI_W64 {ids : Nat → Int} {n k : Nat} {v : Int} (h : ∀ j, j < n → W64 (ids j)) (hv : W64 v) : ∀ j, j < n → W64 (updI ids k v j) := by
  intro j hj
  unfold updI
  split
  · exact hv
  · exact h j hj
set_option maxHeartbeats 2000000 in
theorem join_any (base r mg ib cg cb hg lo B0 : Nat) (ia : Option Addr) (ic n : Nat) (hv : Value) (inn : Nat → Bool) (ids : Nat → Int) (cnt : Int) (H : List HQ.El) (rk : Int) (id : Int) (k : Nat) (ws : List ByteArray) (ms : List Mg) (A B C : List Sp) (wM w : World)
    (hR : RowAt w base r mg ib cg cb hg ia ic n hv inn ids cnt H) (hM : ModelAt wM lo mg ws ms A B C) (hMw : Below wM.heap.size wM w) (hMb : wM.heap.size ≤ base) (hI : ∀ k, k < n → W64 (ids k)) (hlen : H.length + 2 ≤ 1099511627776)
    (hk : k < n) (hin : inn k = true) (hx : CH.nxF inn n k < n) (hid : W64 id) (hcnt : 0 ≤ cnt ∧ cnt ≤ 1048576) :
    Calls Tryd.prog 58 #[.pointer (some ⟨r, 0, none⟩), .agg #[.int .i64 rk, .int .i64 id, .int .i64 (k : Nat), .int .i64 (CH.nxF inn n k : Nat)]] w fun e w' => ∃ hv' H1 H', e = .returned (.tuple #[]) ∧
      RowAt w' base r mg ib cg cb hg ia ic n hv' (CH.cutP inn (CH.nxF inn n k)) (updI ids k id) (cnt - 1) H' ∧ Pd H H1 (pairF ms (CH.cutP inn (CH.nxF inn n k)) n (updI ids k id) (CH.prevA (CH.cutP inn (CH.nxF inn n k)) n (k : Nat))) ∧ Pd H1 H' (pairF ms (CH.cutP inn (CH.nxF inn n k)) n (updI ids k id) (k : Nat)) ∧ Rn ib cg cb hg hv hv' w w' := by
  have hxin := CH.nx_in (inn := inn) (n := n) (i := k) (by omega) hx
  obtain ⟨x, hxe⟩ : ∃ x, x = CH.nxF inn n k := ⟨_, rfl⟩
  rw [← hxe] at hx hxin ⊢
  clear hxe
  obtain ⟨rfl, hA, hbi, -⟩ := hR.ids.resolve_left (by omega)
  have hI' := updI_W64 (k := k) hI hid
  have Hbi : Hid (base ≤ ib) := hbi
  obtain ⟨w1, hw1⟩ : ∃ w1, w1 = w.alloc (.cells #[.int .i64 rk, .int .i64 id, .int .i64 (k : Nat), .int .i64 (x : Nat)] 86) := ⟨_, rfl⟩
  have hb1 : Below w.heap.size w w1 := by rw [hw1]; exact (Below.refl _ w).alloc (Nat.le_refl _) _
  have hp1 : w1.heap[w.heap.size]? = some (.cells #[.int .i64 rk, .int .i64 id, .int .i64 (k : Nat), .int .i64 (x : Nat)] 86 (0, 0)) := by rw [hw1]; exact heap_alloc_new w _
  have hR1 := hR.below hb1
  have bk : 0 ≤ (k : Int) ∧ (k : Int) < (n : Int) := by omega
  obtain ⟨pb, hpb⟩ : ∃ pb, pb = w.heap.size := ⟨_, rfl⟩
  have HPB : Hid (pb = w.heap.size) := hpb
  go_enter Tryd.func58, Tryd.ntmps58
  go_upto_region 1 with fail
  rw [← hw1]
  rw [← hpb] at hp1 ⊢
  clear hw1 hpb hA hbi
  have c1 := cell_regrown (cell_of_block hR1.own 1)
  have x1 := cell_regrown (cell_of_block hp1 1)
  have x2 := cell_regrown (cell_of_block hp1 2)
  refine wp_region_quiet_tail (C := fun w' => ∃ p : Regrown, w' = grow (redrawn w1 p.d) p.os) 9 (by kernel_rfl) (by kernel_rfl) ⟨⟨_, #[]⟩, by rw [grow_empty]; rfl⟩ ?_
  simp only [List.take_succ_cons, List.take_zero, List.drop_succ_cons, List.drop_zero]
  repeat (go_big_quiet_step (fail))
  refine wpQuiet_nil ?_
  intro W2 hw'
  have hb2 : Below w1.heap.size w1 W2 := by
    obtain ⟨⟨dq, osq⟩, rfl⟩ := hw'
    exact below_regrown _ _ _
  clear hw' c1 x1 x2
  have hR2 := hR1.below hb2
  have hp2 := (hb2.block pb (Array.getElem?_eq_some_iff.1 hp1).1).trans hp1
  obtain ⟨-, hA2, hbi, hne⟩ := hR2.ids.resolve_left (by omega)
  have ic0 := hA2.at' hk
  have if0 := hA2.free k
  have B2 := hb1.trans (hb2.mono hb1.size)
  have hR3 := hR2.set (by omega) k id
  have T3 : Rn ib cg cb hg hv hv w (W2.setCell ⟨ib, k, none⟩ (.int .i64 id)) := (Rn.of_below B2).trans (Rn.of_set W2 k _)
  have hpi : pb ≠ ib := fun e => by
    have h1 := HPB.out
    rcases hR.ids with h0 | ⟨-, h2, -⟩
    · omega
    · have := h2.lt
      omega
  have hp3 : (W2.setCell ⟨ib, k, none⟩ (.int .i64 id)).heap[pb]? = _ := (Below.heap_setCell W2 ⟨ib, k, none⟩ _ pb hpi).trans hp2
  clear hbi hne hR1 hb1 hp1 hb2 hR2 hp2 hA2
  go_upto_region 2 with fail
  obtain ⟨W3, hW3⟩ : ∃ W3, W3 = W2.setCell ⟨ib, k, none⟩ (.int .i64 id) := ⟨_, rfl⟩
  rw [← hW3] at hR3 T3 hp3 ⊢
  clear hW3 ic0 if0 B2
  have c1 := cell_regrown (cell_of_block hR3.own 2)
  have x1 := cell_regrown (cell_of_block hp3 3)
  refine wp_region_quiet_tail (C := fun w' => ∃ p : Regrown, w' = grow (redrawn W3 p.d) p.os) 6 (by kernel_rfl) (by kernel_rfl) ⟨⟨_, #[]⟩, by rw [grow_empty]; rfl⟩ ?_
  simp only [List.take_succ_cons, List.take_zero, List.drop_succ_cons, List.drop_zero]
  repeat (go_big_quiet_step (fail))
  refine wpQuiet_nil ?_
  intro W4 hw'
  have hb4 : Below W3.heap.size W3 W4 := by
    obtain ⟨⟨dq, osq⟩, rfl⟩ := hw'
    exact below_regrown _ _ _
  clear hw' c1 x1
  have hR4 := hR3.below hb4
  have hp4 := (hb4.block pb (Array.getElem?_eq_some_iff.1 hp3).1).trans hp3
  have T4 := T3.trans (Rn.of_below hb4)
  have HCU := CH.cut_yes cg cb n inn cnt x W4 hR4.ch hx hxin hcnt
  have hpn : pb ≠ cg ∧ pb ≠ cb ∧ pb ≠ hg ∧ hv.ownBlock ≠ some pb := by
    have h1 := HPB.out
    have h2 := hR.chl
    have h3 := hR.hp.lt
    refine ⟨by omega, by omega, by omega, fun e => ?_⟩
    have := World.ownsRow.lt hR.hp.row pb e
    omega
  clear hb4 hR3 hp3 T3
  go_wp2_with fail
  refine HCU.mono ?_
  rintro e W5 ⟨rfl, hC5, hT5⟩
  clear HCU
  go_upto_region 3 with fail
  have hR5 := hR4.cut hC5 hT5
  have hp5 := (hT5.block pb (Array.getElem?_eq_some_iff.1 hp4).1 hpn.1 hpn.2.1).trans hp4
  have T5 := T4.trans (Rn.of_cut hT5)
  clear hR4 hp4 T4 hC5 hT5
  have c1 := cell_regrown (cell_of_block hR5.own 2)
  have x1 := cell_regrown (cell_of_block hp5 2)
  have HPV := fun d os => (CH.prev_any cg cb n (CH.cutP inn x) (cnt - 1) (k : Nat) (grow (redrawn W5 d) os) (hR5.ch.below (below_regrown W5 d os))).mono (R' := fun e w' => e = .returned (.int .i64 (CH.prevA (CH.cutP inn x) n (k : Nat))) ∧ Below (grow (redrawn W5 d) os).heap.size (grow (redrawn W5 d) os) w') (by rintro e w' ⟨rfl, rfl⟩; exact ⟨rfl, Below.refl _ _⟩)
  refine wp_region_quiet_tail (C := fun w' => ∃ p : Regrown, w' = grow (redrawn W5 p.d) p.os) 8 (by kernel_rfl) (by kernel_rfl) ⟨⟨_, #[]⟩, by rw [grow_empty]; rfl⟩ ?_
  simp only [List.take_succ_cons, List.take_zero, List.drop_succ_cons, List.drop_zero]
  repeat (go_big_quiet_step ((go_at_call 78; exact Calls.regrown_of (HPV _ _))))
  refine wpQuiet_nil ?_
  intro W6 hw'
  have hb6 : Below W5.heap.size W5 W6 := by
    obtain ⟨⟨dq, osq⟩, rfl⟩ := hw'
    exact below_regrown _ _ _
  clear hw' c1 x1 HPV
  have hR6 := hR5.below hb6
  have hp6 := (hb6.block pb (Array.getElem?_eq_some_iff.1 hp5).1).trans hp5
  have T6 := T5.trans (Rn.of_below hb6)
  have hM6 : ModelAt W6 lo mg ws ms A B C := hM.below (hMw.trans ((T6.below hR Hbi.out).mono hMb))
  have HU := pushAt_any base r mg ib cg cb hg lo _ ic n hv (CH.cutP inn x) (updI ids k id) (cnt - 1) H (CH.prevA (CH.cutP inn x) n (k : Nat)) ws ms A B C W6 hR6 hM6 hI' (by omega)
  clear hb6 hR5 hp5 T5 hM6
  go_wp2_with fail
  refine HU.mono ?_
  rintro e W7 ⟨hv1, H1, rfl, hA7, hP7, hT7⟩
  clear HU
  go_upto_region 4 with fail
  have hR7 := hR6.heap hA7 hT7
  have hp7 := (hT7.block pb (Array.getElem?_eq_some_iff.1 hp6).1 hpn.2.2.1 (fun e => hpn.2.2.2 e.symm)).trans hp6
  have T7 := T6.trans (Rn.of_tn hT7)
  have hM7 : ModelAt W7 lo mg ws ms A B C := hM.below (hMw.trans ((T7.below hR Hbi.out).mono hMb))
  have hl1 := hP7.len
  have HU := pushAt_any base r mg ib cg cb hg lo _ ic n hv1 (CH.cutP inn x) (updI ids k id) (cnt - 1) H1 (k : Nat) ws ms A B C W7 hR7 hM7 hI' (by omega)
  have x1 := cell_of_block hp7 2
  have HP7 : Hid (Pd H H1 (pairF ms (CH.cutP inn x) n (updI ids k id) (CH.prevA (CH.cutP inn x) n (k : Nat)))) := hP7
  simp only [List.getElem?_toArray, List.getElem?_cons_zero, List.getElem?_cons_succ] at x1
  clear hR6 hp6 T6 hM7 hA7 hT7 hP7 hp7
  go_wp2_with fail
  refine HU.mono ?_
  rintro e W8 ⟨hv2, H2, rfl, hA8, hP8, hT8⟩
  clear HU
  go_wp2_with fail
  go_end0
  exact ⟨hv2, H1, H2, rfl, hR7.heap hA8 hT8, HP7.out, hP8, T7.trans (Rn.of_tn hT8)⟩
end Go.Proofs.YtjbdhakogbolkaaDoor
end
section
/- A range over an iterator that turns cells of its own: the relation Rl says what it may turn, q from where on all is new. The law's proof goes by the steps of the library's own law (loop's record laid, rounds begun and ended, the jump taken up), at another word for what the iterator may turn. -/
namespace Go.Proofs.YtjbdhakogbolkaaDoor
open Go Go.RowKit
/-- What J says abides the iterator's turns. -/
def AbG {β : Type} (R : Nat → World → World → Prop) (J : Nat → β → World → Prop) : Prop := ∀ q s W W', J q s W → R q W W' → J q s W'
/-- The iterator's contract. -/
def SeqG {α : Type} (F : Fence) (n : Nat) (P : Program) (g : Nat) (lb : Array Value) (encs : α → Array Value) (Rl : Nat → Nat → World → World → Prop) (Kp : Nat → World → World → Prop) (Ok : List α → α → Prop) (Fin : List α → World → Prop) (Sp : List α → Prop) (w : World) : Prop :=
  ∀ (l : Nat) (J Jx : Nat → List α → World → Prop) (W : World), Below w.heap.size w W → AbG (Rl W.heap.size) J → AbG (Rl W.heap.size) Jx →
    (∀ q pre x W1, W.heap.size ≤ q → q ≤ W1.heap.size → J q pre W1 → Ok pre x → YieldAt F (n - 1) P l (encs x) W1 fun e W' => KeepsFrom W.heap.size W1 W' ∧
      ((e = .returned (.bool true) ∧ J q (pre ++ [x]) W' ∧ Kp W.heap.size W1 W') ∨ (e = .returned (.bool false) ∧ Jx q (pre ++ [x]) W'))) →
    (∀ q, W.heap.size ≤ q → J q [] W) →
    CallsIn F n P g (#[.func (.yield l) #[] #[]] ++ lb) W fun e W' => (∃ v, e = .returned v) ∧ ∃ q, W.heap.size ≤ q ∧ ((∃ xs, Fin xs W' ∧ J q xs W') ∨ (∃ pre, Sp pre ∧ Jx q pre W'))
theorem keepsFrom_putObj {B l : Nat} (W : World) (o' : Obj) (h : l < B) : KeepsFrom B W (W.putObj l o') :=
  ⟨by simp, fun k _ hk h0 _ => (World.putObj_heap_other (by omega)).trans h0⟩
theorem kf_chain {B : Nat} {A C D : World} (h : KeepsFrom B A C) (k : KeepsFrom B C D) : KeepsFrom B A D :=
  ⟨Nat.le_trans h.size k.size, fun i o hi h0 ho => k.same i o hi (h.same i o hi h0 ho) ho⟩
theorem kf_higher {B B' : Nat} {A C : World} (h : KeepsFrom B A C) (hB : B ≤ B') : KeepsFrom B' A C := ⟨h.size, fun i o hi => h.same i o (by omega)⟩
variable {F : Fence} {n : Nat} {P : Program} {w : World}
theorem wpIn_rangeFunc_G {α : Type} {g : Operand} {ps : Array Tmp} {assign body : Code} {Q : Exit → Act → World → Prop} {a : Act}
    (hro : F.round = none) (h1 : 1 ≤ n) {gf : Nat} {lb : Array Value} (hg : a.eval g = .func (.func gf) #[] lb) (hFg : F.fn gf) (eg : ∀ args w, (callFunc gf args).run P w = .ok (.enter gf args) w)
    {encs : α → Array Value} {Rl : Nat → Nat → World → World → Prop} {Kp : Nat → World → World → Prop} {Ok : List α → α → Prop} {Fin : List α → World → Prop} {Sp : List α → Prop} {w0 : World} (hseq : SeqG F (n - 1) P gf lb encs Rl Kp Ok Fin Sp w0)
    (hRl : ∀ q A B k o, w.heap.size + 2 ≤ q ∨ True → Rl (w.heap.size + 2) q A B → k < w.heap.size + 2 → w.heap.size ≤ k → A.heap[k]? = some o → o.isCells = false → B.heap[k]? = some o)
    (hFin : ∀ xs A o o', Fin xs A → A.heap[w.heap.size + 1]? = some o → o.isCells = false → Fin xs (A.putObj (w.heap.size + 1) o'))
    (hKt : ∀ {A B C : World}, Kp (w.heap.size + 2) A B → Kp (w.heap.size + 2) B C → Kp (w.heap.size + 2) A C) (hKb : ∀ (W : World) (o o' : Obj), W.heap[w.heap.size + 1]? = some o → o.isCells = false → o.isWalk = false → Kp (w.heap.size + 2) W (W.putObj (w.heap.size + 1) o')) (hb0 : Below w0.heap.size w0 w) (hps : ∀ x, (encs x).size = ps.size)
    (I : Nat → List α → World → Prop) (Ix : Code → Nat → List α → World → Prop) (hI' : ∀ q, OwnFrom w.heap.size (I q)) (hIx' : ∀ c q, OwnFrom w.heap.size (Ix c q)) (hI : AbG (Rl (w.heap.size + 2)) I) (hIx : ∀ c, AbG (Rl (w.heap.size + 2)) (Ix c)) (h0 : ∀ q, w.heap.size + 2 ≤ q → I q [] w) (Ax : α → Act → World → Prop) (hAx : ∀ x a', OwnFrom w.heap.size (fun (_ : Unit) W => Ax x a' W))
    (hassign : ∀ (q : Nat) (pre : List α) (x : α) (W : World) (K : Act → World → Prop), I q pre W → w.heap.size + 2 ≤ q → q ≤ W.heap.size → (∀ a' W', KeepsFrom w.heap.size W W' → Kp (w.heap.size + 2) W W' → I q pre W' → Ax x a' W' → K a' W') →
      assign.wpIn (F.inRound (w.heap.size + 1)) (n - 1 - 1) P (Exit.then K (fun _ _ _ => False)) { tmps := (ps.zip (encs x)).foldl (fun t (p, v) => t.setIfInBounds p v) a.tmps, defers := [] } W)
    (hbody : ∀ (q : Nat) (pre : List α) (x : α) (a' : Act) (W : World), (∃ r, W.heap[w.heap.size + 1]? = some (.loop r)) → w.heap.size + 2 ≤ q → q ≤ W.heap.size → I q pre W → Ax x a' W → Ok pre x → body.wpIn (F.inRound (w.heap.size + 1)) (n - 1 - 1) P (ownPostG w.heap.size (Kp (w.heap.size + 2)) (I q) (fun c => Ix c q) (pre ++ [x]) W) a' W)
    (hdone : ∀ (D q : Nat) (xs : List α) (W : World), D = w.heap.size → w.heap.size + 2 ≤ q → Fin xs W → I q xs W → W.heap[D]? = some (.deferred (some [])) → Q .normal { a with defers := { target := .collected D, args := #[] } :: a.defers } W)
    (hstop : ∀ (D q : Nat) (c : Code) (pre : List α) (W : World), D = w.heap.size → w.heap.size + 2 ≤ q → Sp pre → Ix c q pre W → W.heap[D]? = some (.deferred (some [])) → c.wpIn F n P Q { a with defers := { target := .collected D, args := #[] } :: a.defers } W) :
    (Code.rangeFunc g ps assign body).wpIn F n P Q a w := by
  refine wpIn_rangeFunc ?_
  intro fn hfn
  rw [hro]
  obtain ⟨rec, hrec⟩ : ∃ rec : LoopState → Option Code → Loop, rec = fun st pe => { state := st, pending := pe, fn, tmps := a.tmps, params := ps, assign, body, defers := w.heap.size } := ⟨_, rfl⟩
  obtain ⟨L, hL⟩ : ∃ L, L = w.heap.size + 1 := ⟨_, rfl⟩
  obtain ⟨W1, hW1⟩ : ∃ W1, (w.alloc (.deferred (some []))).alloc (.loop (rec .ready none)) = W1 := ⟨_, rfl⟩
  have hs1 : W1.heap.size = w.heap.size + 2 := by rw [← hW1]; simp
  have hL1 : W1.heap[L]? = some (.loop (rec .ready none)) := by
    have := World.alloc_heap_new (w.alloc (.deferred (some []))) (.loop (rec .ready none))
    rw [World.size_alloc, ← hL] at this
    rw [← hW1]; exact this
  have hK1 : W1.heap[w.heap.size]? = some (.deferred (some [])) := by
    rw [← hW1]; exact (Below.heap_alloc _ _ _ (by simp)).trans (World.alloc_heap_new w _)
  have hI1 : ∀ q, w.heap.size + 2 ≤ q → I q [] W1 := fun q hq => by rw [← hW1]; exact (hI' q).alloc _ ((hI' q).alloc _ (h0 q hq))
  have hb1 : Below w0.heap.size w0 W1 := by
    rw [← hW1]; exact hb0.trans ((((Below.refl _ w).alloc (Nat.le_refl _) _).alloc (by simp) _).mono hb0.size)
  refine ⟨L, [{ target := .collected w.heap.size, args := #[] }], W1, { target := .fn (.func gf) lb, args := #[.func (.yield L) #[] #[]] }, W1, gf, #[.func (.yield L) #[] #[]] ++ lb, W1, ?_, ?_, ?_, ?_, fun _ => h1, ?_⟩
  · rw [← hW1, hrec, hL]; exact run_enterLoop_outer _ _ _ _ _
  · simp only [resolve, hg]
    simp [go_sem]
  · intro f' hf'; simp [Target.leads] at hf'; subst hf'; exact hFg
  · simp [invoke, go_sem, eg]
  · refine (hseq L
      (fun q pre W => I q pre W ∧ W.heap[L]? = some (.loop (rec .ready none)) ∧ W.heap[w.heap.size]? = some (.deferred (some [])))
      (fun q pre W => ∃ c, Ix c q pre W ∧ W.heap[L]? = some (.loop (rec .done (some c))) ∧ W.heap[w.heap.size]? = some (.deferred (some [])))
      W1 hb1
      (fun q s A B hs hr => by
        rw [hs1] at hr
        exact ⟨hI q s A B hs.1 hr, hRl q A B L _ (.inr trivial) hr (by omega) (by omega) hs.2.1 rfl, hRl q A B _ _ (.inr trivial) hr (by omega) (Nat.le_refl _) hs.2.2 rfl⟩)
      (fun q s A B hs hr => by
        rw [hs1] at hr
        obtain ⟨c, hc, hl, hk⟩ := hs
        exact ⟨c, hIx c q s A B hc hr, hRl q A B L _ (.inr trivial) hr (by omega) (by omega) hl rfl, hRl q A B _ _ (.inr trivial) hr (by omega) (Nat.le_refl _) hk rfl⟩)
      ?_ (fun q hq => ⟨hI1 q (by omega), hL1, hK1⟩)).mono ?_
    · rintro q pre x W hq1 hq2 ⟨hi, hl, hk⟩ hok
      rw [hs1] at hq1
      have hy := run_yield (P := P) (args := encs x) hl (by rw [hrec]; exact hps x)
      rw [hrec] at hy
      rw [hL] at hy
      refine ⟨fn, _, assign, body, by rw [hL]; exact hy, ?_⟩
      rw [hL]
      refine roundIn_of_wpIn hfn (hassign q pre x W _ hi hq1 hq2 ?_)
      clear hy
      intro a' Wa hkfa hkpa hia hax
      have hl' := hkfa.same _ _ (by omega) hl rfl
      have hk' := hkfa.same _ _ (Nat.le_refl _) hk rfl
      have hlt : w.heap.size + 1 < Wa.heap.size := by rw [← hL]; exact (Array.getElem?_eq_some_iff.1 hl').1
      rw [hL] at hl'
      refine ⟨_, run_beginRound hl' (by rw [hrec]), ?_⟩
      have hl2 : (Wa.putObj (w.heap.size + 1) (.loop { rec .ready none with state := .busy })).heap[w.heap.size + 1]? = some (.loop { rec .ready none with state := .busy }) := World.putObj_heap_same hlt
      have hk2 : (Wa.putObj (w.heap.size + 1) (.loop { rec .ready none with state := .busy })).heap[w.heap.size]? = some (.deferred (some [])) := (World.putObj_heap_other (by omega)).trans hk'
      have hw2 : Kp (w.heap.size + 2) Wa (Wa.putObj (w.heap.size + 1) (.loop { rec .ready none with state := .busy })) := hKb _ _ _ hl' rfl rfl
      have hq2 : KeepsFrom W1.heap.size W (Wa.putObj (w.heap.size + 1) (.loop { rec .ready none with state := .busy })) := kf_chain (kf_higher hkfa (by omega)) (keepsFrom_putObj _ _ (by omega))
      refine wpIn_mono (hbody q pre x a' _ ⟨_, hl2⟩ hq1 (by have := hkfa.size; simp; omega) ((hI' q).putObj _ hia (by omega) hl' rfl) ((hAx x a').putObj (s := ()) _ hax (by omega) hl' rfl) hok) ?_
      have fin : ∀ (jump : Option Code) (W3 : World), KeepsFrom w.heap.size (Wa.putObj (w.heap.size + 1) (.loop { rec .ready none with state := .busy })) W3 →
          (Instr.endRound (w.heap.size + 1) jump).run P W3 = .ok (.bool jump.isNone) (W3.putObj (w.heap.size + 1) (.loop (rec (if jump.isNone then .ready else .done) jump))) ∧
          W3.heap[w.heap.size + 1]? = some (.loop { rec .ready none with state := .busy }) ∧
          (W3.putObj (w.heap.size + 1) (.loop (rec (if jump.isNone then .ready else .done) jump))).heap[w.heap.size + 1]? = some (.loop (rec (if jump.isNone then .ready else .done) jump)) ∧
          (W3.putObj (w.heap.size + 1) (.loop (rec (if jump.isNone then .ready else .done) jump))).heap[w.heap.size]? = some (.deferred (some [])) ∧
          KeepsFrom W1.heap.size W (W3.putObj (w.heap.size + 1) (.loop (rec (if jump.isNone then .ready else .done) jump))) := fun jump W3 hk3 => by
        have hl3 := hk3.same _ _ (by omega) hl2 rfl
        have := run_endRound (P := P) jump hl3
        rw [hrec] at this ⊢
        refine ⟨this, by rw [hrec] at hl3; exact hl3, World.putObj_heap_same (Array.getElem?_eq_some_iff.1 hl3).1, (World.putObj_heap_other (by omega)).trans (hk3.same _ _ (Nat.le_refl _) hk2 rfl), ?_⟩
        exact kf_chain (kf_chain hq2 (kf_higher hk3 (by omega))) (keepsFrom_putObj _ _ (by omega))
      rintro e a3 W3 hp
      cases e with
      | normal =>
        obtain ⟨hk3, hkp3, hi3⟩ := hp
        obtain ⟨hr, hl3, hl4, hk4, hq4⟩ := fin none W3 hk3
        exact ⟨_, _, hr, hq4, .inl ⟨rfl, ⟨(hI' q).putObj _ hi3 (by omega) hl3 rfl, hl4, hk4⟩, by rw [hs1]; exact hKt hkpa (hKt (hKt hw2 hkp3) (hKb _ _ _ hl3 rfl rfl))⟩⟩
      | ret =>
        obtain ⟨hk3, hi3⟩ := hp
        obtain ⟨hr, hl3, hl4, hk4, hq4⟩ := fin (some .ret) W3 hk3
        exact ⟨_, _, hr, hq4, .inr ⟨rfl, .ret, (hIx' _ q).putObj _ hi3 (by omega) hl3 rfl, hl4, hk4⟩⟩
      | exit id =>
        obtain ⟨hk3, hi3⟩ := hp
        obtain ⟨hr, hl3, hl4, hk4, hq4⟩ := fin (some (.exit id)) W3 hk3
        exact ⟨_, _, hr, hq4, .inr ⟨rfl, .exit id, (hIx' _ q).putObj _ hi3 (by omega) hl3 rfl, hl4, hk4⟩⟩
      | goto t =>
        obtain ⟨hk3, hi3⟩ := hp
        obtain ⟨hr, hl3, hl4, hk4, hq4⟩ := fin (some (.goto t)) W3 hk3
        exact ⟨_, _, hr, hq4, .inr ⟨rfl, .goto t, (hIx' _ q).putObj _ hi3 (by omega) hl3 rfl, hl4, hk4⟩⟩
      | panic ch => exact hp.elim
      | outgrown => exact hp.elim
    · rintro e W2 ⟨⟨v, rfl⟩, q, hq, (⟨xs, hS, hi, hl, hk⟩ | ⟨pre, hSp, c, hi, hl, hk⟩)⟩
      · rw [hs1] at hq
        rw [hL] at hl
        exact ⟨none, _, by have := run_endLoop (P := P) hl (by rw [hrec]; simp); rw [hrec] at this; rw [hL]; exact this, hdone _ q xs _ rfl hq (hFin _ _ _ _ hS hl rfl) ((hI' q).putObj _ hi (by omega) hl rfl) ((World.putObj_heap_other (by omega)).trans hk)⟩
      · rw [hs1] at hq
        rw [hL] at hl
        exact ⟨some c, _, by have := run_endLoop (P := P) hl (by rw [hrec]; simp); rw [hrec] at this; rw [hL]; exact this, hstop _ q c pre _ rfl hq hSp ((hIx' c q).putObj _ hi (by omega) hl rfl) ((World.putObj_heap_other (by omega)).trans hk)⟩
theorem wpIn_rangeFunc_G1 {α : Type} {g : Operand} {ps : Array Tmp} {assign body : Code} {Q : Exit → Act → World → Prop} {a : Act}
    (hro : F.round = none) (h1 : 1 ≤ n) {gf : Nat} {lb : Array Value} (hg : a.eval g = .func (.func gf) #[] lb) (hFg : F.fn gf) (eg : ∀ args w, (callFunc gf args).run P w = .ok (.enter gf args) w)
    {encs : α → Array Value} {Rl : Nat → Nat → World → World → Prop} {Kp : Nat → World → World → Prop} {Ok : List α → α → Prop} {Fin : List α → World → Prop} {Sp : List α → Prop} {w0 : World} (hseq : SeqG F (n - 1) P gf lb encs Rl Kp Ok Fin Sp w0)
    (hRl : ∀ q A B k o, w.heap.size + 2 ≤ q ∨ True → Rl (w.heap.size + 2) q A B → k < w.heap.size + 2 → w.heap.size ≤ k → A.heap[k]? = some o → o.isCells = false → B.heap[k]? = some o)
    (hFin : ∀ xs A o o', Fin xs A → A.heap[w.heap.size + 1]? = some o → o.isCells = false → Fin xs (A.putObj (w.heap.size + 1) o'))
    (hKt : ∀ {A B C : World}, Kp (w.heap.size + 2) A B → Kp (w.heap.size + 2) B C → Kp (w.heap.size + 2) A C) (hKb : ∀ (W : World) (o o' : Obj), W.heap[w.heap.size + 1]? = some o → o.isCells = false → o.isWalk = false → Kp (w.heap.size + 2) W (W.putObj (w.heap.size + 1) o')) (hb0 : Below w0.heap.size w0 w) (hps : ∀ x, (encs x).size = ps.size)
    (I : Nat → List α → World → Prop) (Ix : Code → Nat → List α → World → Prop) (hI' : ∀ q, OwnFrom w.heap.size (I q)) (hIx' : ∀ c q, OwnFrom w.heap.size (Ix c q)) (hI : AbG (Rl (w.heap.size + 2)) I) (hIx : ∀ c, AbG (Rl (w.heap.size + 2)) (Ix c)) (h0 : ∀ q, w.heap.size + 2 ≤ q → I q [] w) (f : Act → α → Act)
    (hassign : ∀ (q : Nat) (pre : List α) (x : α) (W : World) (K : Act → World → Prop), I q pre W → w.heap.size + 2 ≤ q → q ≤ W.heap.size → (∀ a' W', KeepsFrom w.heap.size W W' → Kp (w.heap.size + 2) W W' → I q pre W' → a' = f a x → K a' W') →
      assign.wpIn (F.inRound (w.heap.size + 1)) (n - 1 - 1) P (Exit.then K (fun _ _ _ => False)) { tmps := (ps.zip (encs x)).foldl (fun t (p, v) => t.setIfInBounds p v) a.tmps, defers := [] } W)
    (hbody : ∀ (q : Nat) (pre : List α) (x : α) (W : World), (∃ r, W.heap[w.heap.size + 1]? = some (.loop r)) → w.heap.size + 2 ≤ q → q ≤ W.heap.size → I q pre W → Ok pre x → body.wpIn (F.inRound (w.heap.size + 1)) (n - 1 - 1) P (ownPostG w.heap.size (Kp (w.heap.size + 2)) (I q) (fun c => Ix c q) (pre ++ [x]) W) (f a x) W)
    (hdone : ∀ (D q : Nat) (xs : List α) (W : World), D = w.heap.size → w.heap.size + 2 ≤ q → Fin xs W → I q xs W → W.heap[D]? = some (.deferred (some [])) → Q .normal { a with defers := { target := .collected D, args := #[] } :: a.defers } W)
    (hstop : ∀ (D q : Nat) (c : Code) (pre : List α) (W : World), D = w.heap.size → w.heap.size + 2 ≤ q → Sp pre → Ix c q pre W → W.heap[D]? = some (.deferred (some [])) → c.wpIn F n P Q { a with defers := { target := .collected D, args := #[] } :: a.defers } W) :
    (Code.rangeFunc g ps assign body).wpIn F n P Q a w :=
  wpIn_rangeFunc_G hro h1 hg hFg eg hseq hRl hFin hKt hKb hb0 hps I Ix hI' hIx' hI hIx h0 (fun x a' _ => a' = f a x) (fun x a' => ownFrom_pure _ (fun _ => a' = f a x)) hassign
    (fun q pre x a' W g1 g2 g3 g4 g5 g6 => by subst g5; exact hbody q pre x W g1 g2 g3 g4 g6) hdone hstop
end Go.Proofs.YtjbdhakogbolkaaDoor
end
