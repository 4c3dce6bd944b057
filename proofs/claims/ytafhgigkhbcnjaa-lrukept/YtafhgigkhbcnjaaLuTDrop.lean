/- lru's drop: its contract; the map's operations in a walk. -/
import Derived.Test.YtafhgigkhbcnjaaLuTGet
namespace Go.Proofs.Ytafhgigkhbcnjaa.LU.T
open Go.RowKit Go.Joins Go.Sort Go.Maps
set_option linter.unusedVariables false
set_option linter.unusedSimpArgs false
set_option maxRecDepth 100000
section
variable (w : World) {b n : Nat} {f : κ → Option Nat} {ops : Array Oper} {rest : List Oper} {o : Oper} {a : Act} {Q : Exit → Act → World → Prop}
theorem wpList_put (hg : o.guard = none) (m x v : Operand) (hop : o.op = Op.mapUpdate 61 m x v) (hm : a.eval m = .map (some b)) (h : MapP w b n f) (hn : n < maxLen) (k : κ) (hk : Kw k) (hf : f k = none) (e : Nat)
    (hx : a.eval x = kv k) (hv : a.eval v = .pointer (some ⟨e, 0, none⟩))
    (hK : ∀ w', MapP w' b (n + 1) (fun y => if y = k then some e else f y) → w.grownBy w' (some b) → wpList Try.prog ops Q rest (a.put o.dst undef) w') :
    wpList Try.prog ops Q (o :: rest) a w := by
  refine wpList_plain hg fun K' hK' => ?_
  obtain ⟨w', hrun, r1, r2⟩ := h.put hn hk hf e
  unfold Oper.wp
  simp [execOp, hop, hm, hx, hv, hrun, Result.andThen]
  exact hK' _ _ (hK w' r1 r2)
theorem wpList_del (hg : o.guard = none) (m x : Operand) (hop : o.op = Op.call { callee := Callee.builtin Builtin.delete, args := #[m, x], argTypes := #[61, 9] }) (hm : a.eval m = .map (some b)) (h : MapP w b n f) (k : κ) (hk : Kw k) (hf : (f k).isSome = true)
    (hx : a.eval x = kv k)
    (hK : ∀ w', MapP w' b (n - 1) (fun y => if y = k then none else f y) → w.grownBy w' (some b) → wpList Try.prog ops Q rest (a.put o.dst (.tuple #[])) w') :
    wpList Try.prog ops Q (o :: rest) a w := by
  refine wpList_plain hg fun K' hK' => ?_
  obtain ⟨w', hrun, r1, r2⟩ := h.del hk hf o.type
  unfold Oper.wp
  simp [execOp, hop, resolve, invoke, builtin, hm, hx, hrun, Result.andThen]
  exact hK' _ _ (hK w' r1 r2)
end
theorem Es.keyc {w : World} {S : List Nat} {key : Nat → κ} {val : Nat → Int} {p q : Nat → Nat} (h : Es w S key val p q) {e : Nat} (he : e ∈ S) : w.cell? ⟨e, 0, none⟩ = some (.string (key e)) := (cell_of_block (h e he) (i := 0)).trans rfl
/-- The map's block, or one of the list. -/
def InC (mb : Nat) (S : List Nat) : Nat → Prop := fun i => i = mb ∨ i ∈ S
/-- What is left when e goes. -/
theorem Ca.less {w w' : World} {x c mb kn : Nat} {l1 l2 : List Nat} {e : Nat} {key : Nat → κ} {val : Nat → Int} {f f' : κ → Option Nat} (h : Ca w x c mb kn (l1 ++ e :: l2) key val f)
    (h1 : CaAt w' x c mb kn) (h2 : MapP w' mb ((l1 ++ e :: l2).length - 1) f') (hf' : ∀ k, f' k = if k = key e then none else f k) {p q : Nat → Nat} (h3 : Es w' (kn :: (l1 ++ e :: l2)) key val p q) (h4 : Rg p q kn (l1 ++ l2)) : Ca w' x c mb kn (l1 ++ l2) key val f' := by
  have hl : (l1 ++ e :: l2).length - 1 = (l1 ++ l2).length := by simp
  have hnd := move_nd h.nd
  have hsub : ∀ i ∈ l1 ++ l2, i ∈ l1 ++ e :: l2 := fun i hi => mem_move.1 (List.mem_cons_of_mem _ hi)
  have hne : ∀ i ∈ l1 ++ l2, i ≠ e := fun i hi e2 => (List.nodup_cons.1 (List.nodup_cons.1 hnd).2).1 (e2 ▸ hi)
  have hle := h.le
  rw [hl] at h2
  refine ⟨h1, ⟨p, q, h3.sub fun i hi => ?_, h4⟩, List.nodup_cons.2 ⟨fun hi => (List.nodup_cons.1 hnd).1 (List.mem_cons_of_mem _ hi), (List.nodup_cons.1 (List.nodup_cons.1 hnd).2).2⟩, h2, fun k b => ?_, fun b hb => h.kw b (hsub b hb), by omega, h.room⟩
  · rcases List.mem_cons.1 hi with rfl | hi
    · exact List.mem_cons_self
    · exact List.mem_cons_of_mem _ (hsub i hi)
  · rw [hf']
    by_cases hk : k = key e
    · rw [if_pos hk]
      constructor
      · intro h'; cases h'
      · rintro ⟨hb, hkb⟩
        have a1 := (h.tells k b).2 ⟨hsub b hb, hkb⟩
        have a2 := (h.tells k e).2 ⟨by simp, hk.symm⟩
        rw [a1] at a2
        exact absurd (Option.some.inj a2) (hne b hb)
    · rw [if_neg hk, h.tells k b]
      constructor
      · rintro ⟨hb, hkb⟩
        rcases List.mem_cons.1 (mem_move.2 hb) with rfl | hb'
        · exact absurd hkb.symm hk
        · exact ⟨hb', hkb⟩
      · rintro ⟨hb, hkb⟩
        exact ⟨hsub b hb, hkb⟩
set_option maxHeartbeats 2000000 in
theorem drop_any (x c mb kn : Nat) (l1 l2 : List Nat) (e : Nat) (key : Nat → κ) (val : Nat → Int) (f : κ → Option Nat) (W : World) (h : Ca W x c mb kn (l1 ++ e :: l2) key val f) :
    Calls Try.prog 26 #[.pointer (some ⟨x, 0, none⟩), .pointer (some ⟨e, 0, none⟩)] W fun ee w' => ee = .returned (.tuple #[]) ∧ (∃ f', Ca w' x c mb kn (l1 ++ l2) key val f') ∧ Tu (InC mb (kn :: (l1 ++ e :: l2))) W w' := by
  have HC : Hid (Ca W x c mb kn (l1 ++ e :: l2) key val f) := h
  clear h
  go_enter Try.func26, Try.ntmps26
  go_wp2_with fail
  obtain ⟨p, q, L1, R1⟩ := HC.out.es
  have he : e ∈ l1 ++ e :: l2 := by simp
  have hm := rg_mem R1 he
  refine (cut_any _ key val p q e W L1 (List.mem_cons_of_mem _ he) hm.1 hm.2).mono ?_
  rintro _ w2 ⟨rfl, L2, T2⟩
  have HR2 : Hid (Rg (upd p (q e) (p e)) (upd q (p e) (q e)) kn (l1 ++ l2)) := rg_cut HC.out.nd R1
  have HO2 : Hid (CaAt w2 x c mb kn) := (T2.block x HC.out.own.lt (fun hi => HC.out.xe hi rfl)).trans HC.out.own
  have HM2 : Hid (MapP w2 mb (l1 ++ e :: l2).length f) := HC.out.map.kept (T2.block mb HC.out.map.lt (fun hi => HC.out.mbe hi rfl))
  have HL2 : Hid (Es w2 (kn :: (l1 ++ e :: l2)) key val (upd p (q e) (p e)) (upd q (p e) (q e))) := L2
  have HT2 : Hid (Tu (InC mb (kn :: (l1 ++ e :: l2))) W w2) := T2.widen fun i hi => .inr hi
  have O2 := HO2.out
  unfold CaAt at O2
  have c2 := cell_of_block O2 (i := 1)
  have k1 := L2.keyc (List.mem_cons_of_mem _ he)
  have c3 := k1
  clear L2 T2 L1 R1 O2 hm he
  go_upto_region 1 with fail
  have k2 := cell_regrown (c2.trans rfl)
  have k3 := cell_regrown c3
  refine wp_region_quiet_tail (C := fun w' => ∃ p : Regrown, w' = grow (redrawn w2 p.d) p.os) 8 (by kernel_rfl) (by kernel_rfl) ⟨⟨_, #[]⟩, by rw [grow_empty]; rfl⟩ ?_
  simp only [List.take_succ_cons, List.take_zero, List.drop_succ_cons, List.drop_zero]
  repeat (go_big_quiet_step (fail))
  refine wpQuiet_nil ?_
  intro W3 hw'
  have hb1 : Below w2.heap.size w2 W3 := by
    obtain ⟨⟨dq, osq⟩, rfl⟩ := hw'
    exact below_regrown _ _ _
  clear hw' k2 k3  c2 c3 k1
  have M3 : MapP W3 mb (l1 ++ e :: l2).length f := HM2.out.kept (hb1.block mb HM2.out.lt)
  have HL3 : Hid (Es W3 (kn :: (l1 ++ e :: l2)) key val (upd p (q e) (p e)) (upd q (p e) (q e))) := HL2.out.below hb1
  have HO3 : Hid (CaAt W3 x c mb kn) := (hb1.block x HO2.out.lt).trans HO2.out
  have HT3 : Hid (Tu (InC mb (kn :: (l1 ++ e :: l2))) W W3) := HT2.out.trans (Tu.of_below hb1)
  have hfe : (f (key e)).isSome = true := by rw [(HC.out.tells _ e).2 ⟨by simp, rfl⟩]; rfl
  have hkw : Kw (key e) := HC.out.kw e (by simp)
  clear hb1
  go_wp2_with (first | (at_delete; refine wpList_del _ rfl _ _ rfl rfl M3 (key e) hkw hfe rfl ?_; intro w4 M4 G4) | fail)
  go_end0
  refine ⟨rfl, ⟨_, HC.out.less ((G4.block x HO3.out.lt (fun h => HC.out.xmb (Option.some.inj h))).trans HO3.out) M4 (fun k => rfl) (HL3.out.kept fun i hi => G4.block i (HL3.out.lt hi) (fun h => HC.out.mbe hi (Option.some.inj h))) HR2.out⟩, HT3.out.grown G4 (.inl rfl)⟩
end Go.Proofs.Ytafhgigkhbcnjaa.LU.T
