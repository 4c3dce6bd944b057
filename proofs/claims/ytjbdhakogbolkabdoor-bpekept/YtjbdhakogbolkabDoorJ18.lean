import Derived.Test.YtjbdhakogbolkabDoorJ17
import Derived.Test.YtjbdhakogbolkabDoorJ5
import Derived.Deep.AppendSrc
import Derived.Deep.QuietTactic
import Derived.BigQuiet
import Derived.Deep.RegionLaw
import Derived.Deep.DeepCutAuto
import Derived.Deep.LoopGhost
import Derived.WalkSpells
import Derived.WalkLawsBesides
section
/- bpe.Joined; the law's known: their contracts. -/
namespace Go.Proofs.YtjbdhakogbolkabDoor
open Go.RowKit Go.Joins Go.Sort
set_option linter.unusedVariables false
set_option linter.unusedSimpArgs false
set_option maxRecDepth 100000
theorem joined_no (p : Option Addr) (a : Option Addr) (n c : Nat) (w : World) (h : refuF p n ≠ 0) :
    Calls Tryd.prog 8 #[.pointer p, .slice a n c] w fun e w' => e = .returned (.tuple #[.slice none 0 0, .int .i64 (refuF p n)]) ∧ w' = w := by
  have HR := refusal_any p n w
  obtain ⟨y, hy⟩ : ∃ y, y = refuF p n := ⟨_, rfl⟩
  rw [← hy] at h HR ⊢
  have d : (y != 0) = true := by simpa using h
  clear hy h
  go_enter Tryd.func8, Tryd.ntmps8
  go_wp2_with fail
  refine HR.mono ?_
  rintro e w1 ⟨rfl, he⟩
  obtain rfl := he.symm
  clear HR
  go_wp2_with fail
  exact bodyPost_ret (v := .tuple #[.slice none 0 0, .int .i64 y]) (by simp [results, Tryd.results8, go_sem]) rfl ⟨rfl, rfl⟩
/-- Are all ids known? -/
def allK (ws : List ByteArray) (l : List Int) : Bool := l.all fun x => (wordM ws x).isSome
theorem allK_yes {ws : List ByteArray} {l : List Int} (h : allK ws l = true) : KnJ ws l := fun x hx => by
  have := List.all_eq_true.1 h x hx
  cases hw : wordM ws x with
  | none => rw [hw] at this; cases this
  | some w => exact ⟨w, rfl⟩
theorem KnJ.all {ws : List ByteArray} {l : List Int} (h : KnJ ws l) : allK ws l = true := by
  refine List.all_eq_true.2 fun x hx => ?_
  obtain ⟨w, hw⟩ := h x hx
  rw [hw]; rfl
set_option maxHeartbeats 2000000 in
theorem bjoin_any (mg lo : Nat) (a : Option Addr) (c : Nat) (l : List Int) (ws : List ByteArray) (ms : List Mg) (A B C : List Sp) (w : World) (hl : l.length ≤ 1048576) (hn : ws.length ≤ 4611686018427387904) (hin : CH.INS w a l) (hW : ∀ x ∈ l, W64 x) (hMI : ∀ l r k i, mergeM ms l r = some (k, i) → W64 i) (hM : ModelAt w lo mg ws ms A B C) :
    Calls Tryd.prog 8 #[.pointer (some ⟨mg, 0, none⟩), .slice a l.length c] w fun e w' => (allK ws l = false → e = .returned (.tuple #[.slice none 0 0, .int .i64 24])) ∧ (allK ws l = true → ∃ v r st, e = .returned (.tuple #[v, .int .i64 0]) ∧ RowN w' w.heap.size v r ∧ JR ms l st r) ∧ Below w.heap.size w w' := by
  have HR := refusal_any (some ⟨mg, 0, none⟩) l.length w
  rw [show refuF (some ⟨mg, 0, none⟩) l.length = 0 by unfold refuF; rw [if_neg (by simp), if_neg (by omega)]] at HR
  have hlow : lo ≤ w.heap.size := by
    obtain ⟨a0, c0, a1, c1, a2, c2, a3, c3, a4, c4, gt, gr, h1, h2, h3, h4⟩ := hM
    have := (Array.getElem?_eq_some_iff.1 h3).1
    omega
  obtain ⟨n, hnn⟩ : ∃ n, n = l.length := ⟨_, rfl⟩
  have HN : Hid (n = l.length) := hnn
  rw [← hnn] at HR hl ⊢
  clear hnn
  obtain ⟨ak, hak⟩ : ∃ ak, ak = allK ws l := ⟨_, rfl⟩
  have HAK : Hid (ak = allK ws l) := hak
  rw [← hak]
  clear hak
  go_enter Tryd.func8, Tryd.ntmps8
  go_wp2_with fail
  refine HR.mono ?_
  rintro e w1 ⟨rfl, he⟩
  obtain rfl := he.symm
  clear HR
  go_wp2_with fail
  go_loopw [20] (fun v wr => ∃ k : Nat, k ≤ n ∧ v = .int .i64 (k : Nat) ∧ (∀ (i : Nat) (x : Int), i < k → l[i]? = some x → (wordM ws x).isSome = true) ∧ Below w.heap.size w wr) (fun v _ => n - (intOf v).toNat)
  case atStart => exact ⟨0, Nat.zero_le _, rfl, fun i x h => by omega, Below.refl _ _⟩
  case round =>
    obtain ⟨k, hk, rfl, hkn, hB⟩ := hrel
    by_cases hlt : k < n
    · have d : decide ((k : Int) < (n : Int)) = true := decide_eq_true (by omega)
      obtain ⟨x, hx⟩ : ∃ x, l[k]? = some x := ⟨_, List.getElem?_eq_getElem (by rw [← HN.out]; exact hlt)⟩
      obtain ⟨b, off, rfl, c0⟩ := INS.at' (INS.below' hin hB) hx
      have HWd := mword_any mg lo ws ms A B C x wr hn (hM.below hB)
      have bi : 0 ≤ (k : Int) ∧ (k : Int) < (n : Int) := by omega
      obtain ⟨o, ho⟩ : ∃ o, o = wordM ws x := ⟨_, rfl⟩
      rw [← ho] at HWd
      unfold wdV at HWd
      have HX : Hid (l[k]? = some x) := hx
      have HKN : Hid (∀ (i : Nat) (x : Int), i < k → l[i]? = some x → (wordM ws x).isSome = true) := hkn
      have HO : Hid (o = wordM ws x) := ho
      have HIN : Hid (CH.INS w (some ⟨b, off, none⟩) l) := hin
      have HW64 : Hid (∀ x ∈ l, W64 x) := hW
      have HMI : Hid (∀ l r k i, mergeM ms l r = some (k, i) → W64 i) := hMI
      clear hx hkn ho hin hW hMI
      cases o with
      | none =>
        have hf : allK ws l = false := by
          cases hc : allK ws l with
          | false => rfl
          | true =>
            have := List.all_eq_true.1 hc x (List.mem_of_getElem? HX.out)
            rw [← HO.out] at this
            cases this
        obtain rfl : ak = false := HAK.out.trans hf
        clear hf
        go_wp2_with fail
        refine HWd.mono ?_
        rintro e w3 ⟨rfl, hb3⟩
        clear HWd c0
        go_wp2_with fail
        refine bodyPost_ret (v := .tuple #[.slice none 0 0, .int .i64 24]) (by simp [results, Tryd.results8, go_sem]) rfl ⟨rfl, hB.trans (hb3.mono hB.size)⟩
      | some t =>
        go_wp2_with fail
        refine HWd.mono ?_
        rintro e w3 ⟨rfl, hb3⟩
        clear HWd c0
        go_wp2_with fail
        refine ⟨⟨k + 1, by omega, by simp, fun i y hi hy => ?_, hB.trans (hb3.mono hB.size)⟩, by simp only [intOf]; omega⟩
        by_cases e : i = k
        · subst e
          rw [HX.out] at hy
          cases hy
          rw [← HO.out]; rfl
        · exact HKN.out i y (by omega) hy
    · obtain rfl : k = n := by omega
      have d : decide ((k : Int) < (k : Int)) = false := decide_eq_false (by omega)
      have hall : allK ws l = true := List.all_eq_true.2 fun x hx => by
        obtain ⟨i, hi⟩ := List.mem_iff_getElem?.1 hx
        exact hkn i x (by have := (List.getElem?_eq_some_iff.1 hi).1; rw [HN.out]; exact this) hi
      obtain rfl : ak = true := HAK.out.trans hall
      have HCl := cloneN_any a c l wr (by rw [← HN.out]; omega) (INS.below' hin hB)
      rw [← HN.out] at HCl
      clear hkn hall hin
      go_wp2_with fail
      refine HCl.mono ?_
      rintro e w3 ⟨v, rfl, hv3, hb3⟩
      clear HCl
      obtain ⟨ia, ic, ib, rfl, hid3⟩ := hv3.ids
      rw [← HN.out] at hid3 ⊢
      have B3 := hB.trans (hb3.mono hB.size)
      have hWg : ∀ j, j < k → W64 (getI l j) := fun j hj => by
        have hjl : j < l.length := by rw [← HN.out]; exact hj
        unfold getI
        rw [List.getElem?_eq_getElem hjl]
        exact hW _ (List.getElem_mem hjl)
      have HNR := newRow_any wr.heap.size mg ib lo ia ic k (getI l) ws ms A B C w3 hl hid3 (hM.below B3) hWg hb3.size
      have hszr := hB.size
      clear hv3 hid3
      go_wp2_with fail
      refine HNR.mono ?_
      rintro e w4 ⟨r, ib', cg, cb, hg, hv, H, rfl, hR4, hib, hlt4, hH4, hC4, hl4, hb4⟩
      clear HNR
      have hcn : CH.cntG (CH.inn0 k) k = k := CH.cnt_all (Nat.le_refl _)
      have B4 := B3.trans (hb4.mono B3.size)
      have HJ := bjoined_any wr.heap.size r mg ib' cg cb hg lo _ _ k hv (CH.inn0 k, getI l) H ws ms A B C w w4 hMI hM hszr hib hlt4 B4 (by rw [hcn]; exact hR4) hWg hH4 hC4 (by rw [hcn]; omega)
      have hvw : vwJ (CH.inn0 k) k (getI l) = l := by rw [HN.out]; exact vw_getI l
      rw [hvw] at HJ
      have hs4 := B4.size
      clear hR4 hib hlt4 hH4 hC4 hl4 hb4 hb3 hcn hvw hWg B3
      go_wp2_with fail
      refine HJ.mono ?_
      rintro e w5 ⟨v, lr, st, rfl, hv5, hj5, hb5, hnb⟩
      clear HJ
      have B5 := B4.trans (hb5.mono hszr)
      have hv6 : RowN w5 w.heap.size v lr := ⟨hv5.1, by
        rcases hv5.2 with h0 | ⟨b, cap, cur, e, hb, rr⟩
        · exact .inl h0
        · exact .inr ⟨b, cap, cur, e, Nat.le_trans hs4 hb, rr⟩⟩
      clear hv5
      go_wp2_with fail
      exact bodyPost_ret (v := .tuple #[v, .int .i64 0]) (by simp [results, Tryd.results8, go_sem]) rfl ⟨⟨v, rfl, lr, hv6, st, hj5⟩, B5⟩
theorem the_ab : ∃ st, JR houM (byL ⟨#[116, 104, 101, 32, 97, 98]⟩) st [259, 32, 256] := by
  have e0 : byL ⟨#[116, 104, 101, 32, 97, 98]⟩ = [116, 104, 101, 32, 97, 98] := by decide +kernel
  have e1 : repl [116, 104, 101, 32, 97, 98] 4 256 = [116, 104, 101, 32, 256] := by decide +kernel
  have e2 : repl [116, 104, 101, 32, 256] 0 258 = [258, 101, 32, 256] := by decide +kernel
  have e3 : repl [258, 101, 32, 256] 0 259 = [259, 32, 256] := by decide +kernel
  rw [e0]
  refine ⟨[(0, 4), (2, 0), (3, 0)], JR.step (k := 0) (a := 4) (i := 256) (nxC_some (by decide +kernel)) ?_⟩
  rw [e1]
  refine JR.step (k := 2) (a := 0) (i := 258) (nxC_some (by decide +kernel)) ?_
  rw [e2]
  refine JR.step (k := 3) (a := 0) (i := 259) (nxC_some (by decide +kernel)) ?_
  rw [e3]
  exact JR.done (nxC_none (by decide +kernel))
set_option maxHeartbeats 2000000 in
theorem known10_any (w : World) (hG : GL w) : Calls Tryd.prog 5 #[] w fun e w' => e = .returned (.bool true) ∧ Below w.heap.size w w' := by
  have HO := fun (s0 s1 a b c : Option Addr) (wx : World) (h1 : WSP wx s0 houW) (h2 : MSP wx s1 houM) (h3 : Lst wx a 2 houA) (h4 : Lst wx b 1 houB) (h5 : Lst wx c 2 houC) (hg : GL wx) => keepOf_any s0 s1 a b c 6 6 2 1 2 houW houM houA houB houC wx hou_wf (by decide) h1 h2 h3 h4 h5 hg
  rw [hou_up] at HO
  rw [show houA.length = 2 from rfl, show houB.length = 1 from rfl, show houC.length = 2 from rfl, show houW.length = 6 from rfl, show houM.length = 6 from rfl] at HO
  have H1 := fun (g : Nat) (wx : World) lo (h : ModelAt wx lo g houW houM houA houB houC) => bmerge_any g lo ⟨#[116, 104, 101, 32, 97, 98]⟩ houW houM houA houB houC wx (by decide) (mergeM_W64 hou_wf) h
  go_enter Tryd.func5, Tryd.ntmps5
  go_wp2_with fail
  refine (house_any _).mono ?_
  rintro e w1 ⟨s0, s1, a, b, c, rfl, hW, hM, hA, hB, hC, hb1⟩
  have HO := HO s0 s1 a b c w1 hW hM ⟨Nat.le_refl _, by omega, hA⟩ ⟨Nat.le_refl _, by omega, hB⟩ ⟨Nat.le_refl _, by omega, hC⟩ (hG.below hb1)
  clear hW hM hA hB hC
  go_wp2_with fail
  refine HO.mono ?_
  rintro e w2 ⟨p, rfl, h2, -, hb2⟩
  obtain ⟨g, rfl, hMd⟩ := h2 rfl
  have B2 := hb1.trans (hb2.mono hb1.size)
  clear HO h2 hb1 hb2 hG
  go_wp2_with fail
  refine (H1 g _ _ hMd).mono ?_
  rintro e w3 ⟨v, l, st, rfl, hv3, hj3, hb3, hnb⟩
  obtain ⟨st', hj'⟩ := the_ab
  obtain ⟨-, rfl⟩ := hj3.uniq hj'
  obtain ⟨a3, c3, rfl, hi3⟩ := hv3.ins
  have B3 := B2.trans (hb3.mono B2.size)
  obtain ⟨w4, hw4⟩ : ∃ w4, w4 = w3.alloc (.cells #[.int .i64 259, .int .i64 32, .int .i64 256] 3) := ⟨_, rfl⟩
  have hb4 : Below w3.heap.size w3 w4 := by rw [hw4]; exact (Below.refl _ w3).alloc (Nat.le_refl _) _
  have hi4 : CH.INS w4 (some ⟨w3.heap.size, 0, none⟩) [259, 32, 256] := by
    refine .inr ⟨w3.heap.size, 0, rfl, fun i x hx => ?_⟩
    have hk : w4.heap[w3.heap.size]? = some (.cells #[.int .i64 259, .int .i64 32, .int .i64 256] 3 (0, 0)) := by rw [hw4]; exact heap_alloc_new w3 _
    rw [cell_of_block hk, Nat.zero_add]
    match i, hx with
    | 0, hx => cases hx; rfl
    | 1, hx => cases hx; rfl
    | 2, hx => cases hx; rfl
  have HS := sameN_any a3 (some ⟨w3.heap.size, 0, none⟩) c3 3 [259, 32, 256] w4 (by decide) (INS.below' hi3 hb4) hi4
  rw [show (([259, 32, 256] : List Int).length) = 3 from rfl] at HS ⊢
  clear hv3 hj3 hj' hi3 hi4 H1 hMd hb3
  go_wp2_with fail
  rw [← hw4]
  refine HS.mono ?_
  rintro e w5 ⟨rfl, hb5⟩
  clear HS
  go_wp2_with fail
  go_ret
  exact ⟨rfl, (B3.trans (hb4.mono B3.size)).trans (hb5.mono (by have := B3.size; have := hb4.size; omega))⟩
end Go.Proofs.YtjbdhakogbolkabDoor
end
section
/- Books of memory: what all kinds share: blocks that have turned, blocks by type, a value's block if it has room. -/
namespace Go.Proofs.YtjbdhakogbolkabDoor
open Go.RowKit Go.Sort
open Go.Joins
/-- No block but those of S has turned. -/
structure Only (w w' : World) (S : Nat → Prop) : Prop where
  os : w'.os = w.os
  tape : w'.tape = w.tape
  output : w'.output = w.output
  size : w.heap.size ≤ w'.heap.size
  block : ∀ k, k < w.heap.size → ¬ S k → w'.heap[k]? = w.heap[k]?
theorem Only.refl (w : World) (S : Nat → Prop) : Only w w S := ⟨rfl, rfl, rfl, Nat.le_refl _, fun _ _ _ => rfl⟩
theorem Only.trans {a b c : World} {S S1 : Nat → Prop} (h : Only a b S) (k : Only b c S1) (hs : ∀ i, i < a.heap.size → S1 i → S i) : Only a c S :=
  ⟨k.os.trans h.os, k.tape.trans h.tape, k.output.trans h.output, Nat.le_trans h.size k.size, fun i hi hn =>
    (k.block i (Nat.lt_of_lt_of_le hi h.size) (fun h1 => hn (hs i hi h1))).trans (h.block i hi hn)⟩
theorem Only.wider {w w' : World} {S T : Nat → Prop} (h : Only w w' S) (hs : ∀ i, i < w.heap.size → S i → T i) : Only w w' T := ⟨h.os, h.tape, h.output, h.size, fun k hk hn => h.block k hk (fun h1 => hn (hs k hk h1))⟩
theorem Only.below {w w' : World} {S : Nat → Prop} {base : Nat} (h : Only w w' S) (hS : ∀ i, S i → base ≤ i) (hb : base ≤ w.heap.size) : Below base w w' :=
  ⟨h.os, h.tape, h.output, h.size, fun k hk => h.block k (by omega) (fun h1 => by have := hS k h1; omega)⟩
theorem Only.ofGrown {w w' : World} {S : Nat → Prop} {row : Option Nat} (h : w.grownBy w' row) (hS : ∀ i, row = some i → S i) : Only w w' S :=
  ⟨h.os, h.tape, h.output, h.size, fun k hk hn => h.block k hk (fun e => hn (hS k e.symm))⟩
theorem Only.ofBelow {w w' : World} {S : Nat → Prop} (h : Below w.heap.size w w') : Only w w' S := ⟨h.os, h.tape, h.output, h.size, fun k hk _ => h.block k hk⟩
theorem Only.alloc (w : World) (S : Nat → Prop) (o : Obj) : Only w (w.alloc o) S := ⟨rfl, rfl, rfl, by simp, fun k hk _ => Below.heap_alloc _ _ _ hk⟩
theorem Only.set {w : World} {S : Nat → Prop} (b o : Nat) (v : Value) (h : S b) : Only w (w.setCell ⟨b, o, none⟩ v) S :=
  ⟨rfl, rfl, rfl, by simp [World.setCell], fun k _ hn => Below.heap_setCell _ _ _ _ (by intro e; exact hn (by rw [e]; exact h))⟩
theorem Only.drewN {w w' : World} {S : Nat → Prop} (h : Only w w' S) (k : Nat) : Only w (w'.drewN k) S := ⟨h.os, h.tape, h.output, h.size, h.block⟩
/-- The same memory, whatever has been drawn. -/
structure Like (w w' : World) : Prop where
  heap : w'.heap = w.heap
  os : w'.os = w.os
  tape : w'.tape = w.tape
  output : w'.output = w.output
theorem Like.refl (w : World) : Like w w := ⟨rfl, rfl, rfl, rfl⟩
theorem Like.drew {w w' : World} (h : Like w w') : Like w w'.drew := ⟨h.heap, h.os, h.tape, h.output⟩
theorem Like.only {w w' : World} (h : Like w w') (S : Nat → Prop) : Only w w' S := ⟨h.os, h.tape, h.output, by rw [h.heap]; exact Nat.le_refl _, fun k _ _ => by rw [h.heap]⟩
/-- Two blocks of unlike types are two. -/
theorem apart_types {w : World} {g g' : Nat} {c c' : Array Value} {t t' : TypeId} {f f' : Nat × Nat} (h : w.heap[g]? = some (.cells c t f)) (h' : w.heap[g']? = some (.cells c' t' f')) (ht : t ≠ t') : g ≠ g' := by
  intro e; subst e; rw [h] at h'; simp at h'; exact ht h'.2.1
/-- A value's block, if it has room in it. -/
def ob : Value → Option Nat
  | .slice (some a) _ c => if c = 0 then none else some a.block
  | _ => none
theorem ob_some {a : Addr} {n c : Nat} (h : 0 < c) : ob (.slice (some a) n c) = some a.block := if_neg (by omega)
theorem ob_zero {a : Option Addr} {n : Nat} : ob (.slice a n 0) = none := by cases a <;> rfl
/-- The block is of that type. -/
def TyB (w : World) (t : TypeId) (k : Nat) : Prop := ∃ cur, w.heap[k]? = some (.cells cur t (0, 0))
theorem TyB.ne {w : World} {t t' : TypeId} {k k' : Nat} (h : TyB w t k) (h' : TyB w t' k') (ht : t ≠ t') : k ≠ k' := by
  obtain ⟨c, h⟩ := h
  obtain ⟨c', h'⟩ := h'
  exact apart_types h h' ht
/-- append, as one step of a region that draws, by what its run leaves. -/
theorem step_append_ex {P : Program} {ops : Array Oper} {o : Oper} {a : Act} {w : World} {K : Act → World → Prop} {Q : Exit → Act → World → Prop} {E : Prop}
    (hg : o.guard = none) (s x : Operand) (t tx : TypeId) (hop : o.op = Op.call { callee := Callee.builtin Builtin.append, args := #[s, x], argTypes := #[t, tx] }) (v y : Value) (hs : a.eval s = v) (hx : a.eval x = y) (R : Value → World → Prop)
    (hr : ∃ v' w', (Builtin.append_ #[t, tx] o.type #[v, y]).run P w = .ok v' w' ∧ R v' w') (hK : ∀ v' w', R v' w' → K (a.put o.dst v') w') :
    if Region.wanted o (yielded ops a.tmps) = true then Oper.wp P o a w K Q else E := by
  have hw : Region.wanted o (yielded ops a.tmps) = true := by simp [Region.wanted, hg]
  rw [if_pos hw]
  obtain ⟨v', w', hrun, hR⟩ := hr
  unfold Oper.wp
  simp [execOp, hop, resolve, invoke, builtin, hs, hx, hrun, Result.andThen]
  exact hK v' w' hR
end Go.Proofs.YtjbdhakogbolkabDoor
end
section
/- Lists of numbers of one's own, with room. -/
namespace Go.Proofs.YtjbdhakogbolkabDoor
open Go.RowKit Go.Sort Go.Joins
set_option linter.unusedVariables false
/-- A list of words in memory of one's own, spare room and all. -/
def IPR (w : World) (lo : Nat) (a : Option Addr) (c : Nat) (l : List Int) : Prop := (c = 0 ∧ l = []) ∨ ∃ g cur, a = some ⟨g, 0, none⟩ ∧ lo ≤ g ∧ w.heap[g]? = some (.cells cur 3 (0, 0)) ∧ cur.size = c * 1 ∧ ∀ (i : Nat) (x : Int), l[i]? = some x → cur[i]? = some (.int .i64 x)
theorem IPR.below {w w' : World} {lo c : Nat} {a : Option Addr} {l : List Int} (h : IPR w lo a c l) (hb : Below w.heap.size w w') : IPR w' lo a c l := by
  rcases h with h | ⟨g, cur, h1, h2, h3, h4⟩
  · exact .inl h
  · exact .inr ⟨g, cur, h1, h2, (hb.block g (Array.getElem?_eq_some_iff.1 h3).1).trans h3, h4⟩
theorem IPR.low {w : World} {lo lo' c : Nat} {a : Option Addr} {l : List Int} (h : IPR w lo a c l) (hl : lo' ≤ lo) : IPR w lo' a c l := by
  rcases h with h | ⟨g, cur, h1, h2, h3⟩
  · exact .inl h
  · exact .inr ⟨g, cur, h1, by omega, h3⟩
theorem IPR.away {w : World} {lo c : Nat} {a : Option Addr} {l : List Int} (h : IPR w lo a c l) {b o : Nat} (hb : b < lo) (v : Value) : IPR (w.setCell ⟨b, o, none⟩ v) lo a c l := by
  rcases h with h | ⟨g, cur, h1, h2, h3, h4⟩
  · exact .inl h
  · exact .inr ⟨g, cur, h1, h2, (Below.heap_setCell w ⟨b, o, none⟩ v g (fun e => by have e' : g = b := e; omega)).trans h3, h4⟩
theorem IPR.sp {w : World} {lo c : Nat} {a : Option Addr} {l : List Int} (h : IPR w lo a c l) : CH.INS w a l := by
  rcases h with ⟨-, h⟩ | ⟨g, cur, rfl, h2, h3, h4, h5⟩
  · exact .inl h
  · exact .inr ⟨g, 0, rfl, fun i x hx => by rw [cell_of_block h3, Nat.zero_add]; exact h5 i x hx⟩
/-- A list of words of one's own. -/
structure OwnI (w : World) (lo : Nat) (a : Option Addr) (c : Nat) (l : List Int) : Prop where
  le : l.length ≤ c
  cap : c ≤ 9223372036854775807
  row : IPR w lo a c l
theorem OwnI.below {w w' : World} {lo c : Nat} {a : Option Addr} {l : List Int} (h : OwnI w lo a c l) (hb : Below w.heap.size w w') : OwnI w' lo a c l := ⟨h.le, h.cap, h.row.below hb⟩
theorem OwnI.low {w : World} {lo lo' c : Nat} {a : Option Addr} {l : List Int} (h : OwnI w lo a c l) (hl : lo' ≤ lo) : OwnI w lo' a c l := ⟨h.le, h.cap, h.row.low hl⟩
theorem OwnI.away {w : World} {lo c : Nat} {a : Option Addr} {l : List Int} (h : OwnI w lo a c l) {b o : Nat} (hb : b < lo) (v : Value) : OwnI (w.setCell ⟨b, o, none⟩ v) lo a c l := ⟨h.le, h.cap, h.row.away hb v⟩
def cellsJ (l : List Int) : List Value := l.flatMap encN
theorem cellsJ_map (l : List Int) : cellsJ l = l.map (Value.int .i64) := encN_flat l
theorem cellsJ_length (l : List Int) : (cellsJ l).length = l.length * 1 := by rw [cellsJ_map]; simp
theorem cellsJ_get {l : List Int} {i : Nat} {x : Int} (h : l[i]? = some x) : (cellsJ l)[i]? = some (.int .i64 x) := by rw [cellsJ_map, List.getElem?_map, h]; rfl
theorem cellsJ_one (l : List Int) : ∀ v ∈ cellsJ l, v.oneCell' = true := by
  intro v hv
  rw [cellsJ_map] at hv
  obtain ⟨c, _, rfl⟩ := List.mem_map.1 hv
  rfl
theorem infoJ : (Tryd.prog.info? 3).map (fun i => (i.zero, i.size, i.bytes)) = some (some (.int .i64 0), 1, 8) := by kernel_rfl
theorem CH.INS.cells {w : World} {x : Addr} {l : List Int} (h : CH.INS w (some x) l) : ∀ j u, (cellsJ l)[j]? = some u → w.cell? (x.add j) = some u := by
  intro j u hu
  rcases h with rfl | ⟨b, off, hx, hc⟩
  · simp [cellsJ] at hu
  · obtain rfl := Option.some.inj hx
    rw [cellsJ_map, List.getElem?_map] at hu
    cases hl : l[j]? with
    | none => rw [hl] at hu; cases hu
    | some y =>
      rw [hl] at hu
      simp only [Option.map_some, Option.some.injEq] at hu
      rw [Go.WideShapes.add_plain, ← hu]
      exact hc j y hl
end Go.Proofs.YtjbdhakogbolkabDoor
end
