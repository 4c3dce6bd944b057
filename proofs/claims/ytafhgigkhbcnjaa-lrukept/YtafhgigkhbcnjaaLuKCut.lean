/- lru's entry.cut and entry.link: their contracts. -/
import Derived.Test.YtafhgigkhbcnjaaLuKMem
import Derived.Test.YtafhgigkhbcnjaaURegion
namespace Go.Proofs.Ytafhgigkhbcnjaa.LU.K
open Go.RowKit Go.Joins Go.Sort Go.Maps
set_option linter.unusedVariables false
set_option linter.unusedSimpArgs false
set_option maxRecDepth 100000
set_option maxHeartbeats 4000000 in
theorem cut_any (S : List Nat) (key : Nat → κ) (val : Nat → Int) (p q : Nat → Nat) (x : Nat) (W : World) (h : Es W S key val p q) (hx : x ∈ S) (hp : p x ∈ S) (hq : q x ∈ S) :
    Calls Try.prog 31 #[.pointer (some ⟨x, 0, none⟩)] W fun e w' => e = .returned (.tuple #[]) ∧ Es w' S key val (upd p (q x) (p x)) (upd q (p x) (q x)) ∧ Tu (· ∈ S) W w' := by
  obtain ⟨a, ha⟩ : ∃ a, a = p x := ⟨_, rfl⟩
  obtain ⟨b, hb⟩ : ∃ b, b = q x := ⟨_, rfl⟩
  have HE : Hid (Es W S key val p q) := h
  have HX : Hid (x ∈ S) := hx
  have HP : Hid (a ∈ S) := by rw [ha]; exact hp
  have HQ : Hid (b ∈ S) := by rw [hb]; exact hq
  have HA : Hid (a = p x) := ha
  have HB : Hid (b = q x) := hb
  rw [← ha, ← hb]
  have c0 := h.ahead hx
  have c1 := h.behind hx
  rw [← ha] at c0
  rw [← hb] at c1
  clear ha hb h hx hp hq
  go_enter Try.func31, Try.ntmps31
  go_upto_region 0 with fail
  have k0 := cell_regrown c0
  have k1 := cell_regrown c1
  clear c0 c1
  refine wp_region_quiet_tail (C := fun w' => ∃ p : Regrown, w' = grow (redrawn W p.d) p.os) 8 (by kernel_rfl) (by kernel_rfl) ⟨⟨_, #[]⟩, by rw [grow_empty]; rfl⟩ ?_
  simp only [List.take_succ_cons, List.take_zero, List.drop_succ_cons, List.drop_zero]
  repeat (go_big_quiet_step (fail))
  refine wpQuiet_nil ?_
  intro W1 hw'
  have hb1 : Below W.heap.size W W1 := by
    obtain ⟨⟨dq, osq⟩, rfl⟩ := hw'
    exact below_regrown _ _ _
  clear hw' k0 k1
  have L1 := HE.out.below hb1
  have T1 : Tu (· ∈ S) W W1 := Tu.of_below hb1
  have f1 := L1.free HP.out
  have i1 := L1.behind HP.out
  clear hb1
  go_wp2_with fail
  have L2 := L1.setB a b
  have T2 := T1.set (c := a) (o := 4) (.pointer (some ⟨b, 0, none⟩)) HP.out
  obtain ⟨W2, hW2⟩ : ∃ W2, W2 = W1.setCell ⟨a, 4, none⟩ (.pointer (some ⟨b, 0, none⟩)) := ⟨_, rfl⟩
  rw [← hW2] at L2 T2 ⊢
  clear hW2 f1 L1 T1 i1
  have k0 := cell_regrown (L2.ahead HX.out)
  have k1 := cell_regrown (L2.behind HX.out)
  rw [← HA.out] at k0
  rw [show upd q a b x = b by unfold upd; split; rfl; exact HB.out.symm] at k1
  refine wp_region_quiet_tail (C := fun w' => ∃ p : Regrown, w' = grow (redrawn W2 p.d) p.os) 8 (by kernel_rfl) (by kernel_rfl) ⟨⟨_, #[]⟩, by rw [grow_empty]; rfl⟩ ?_
  simp only [List.take_succ_cons, List.take_zero, List.drop_succ_cons, List.drop_zero]
  repeat (go_big_quiet_step (fail))
  refine wpQuiet_nil ?_
  intro W3 hw'
  have hb1 : Below W2.heap.size W2 W3 := by
    obtain ⟨⟨dq, osq⟩, rfl⟩ := hw'
    exact below_regrown _ _ _
  clear hw' k0 k1
  have L3 := L2.below hb1
  have T3 := T2.trans (Tu.of_below hb1)
  have f3 := L3.free HQ.out
  have i3 := L3.ahead HQ.out
  clear hb1 L2 T2
  go_wp2_with fail
  go_end0
  exact ⟨rfl, L3.setA b a, T3.set (c := b) (o := 3) _ HQ.out⟩
set_option maxHeartbeats 4000000 in
theorem link_any (S : List Nat) (key : Nat → κ) (val : Nat → Int) (p q : Nat → Nat) (kn x : Nat) (W : World) (h : Es W S key val p q) (hk : kn ∈ S) (hx : x ∈ S) (hq : q kn ∈ S) :
    Calls Try.prog 32 #[.pointer (some ⟨kn, 0, none⟩), .pointer (some ⟨x, 0, none⟩)] W fun e w' => e = .returned (.tuple #[]) ∧ Es w' S key val (upd (upd p x kn) (q kn) x) (upd (upd q x (q kn)) kn x) ∧ Tu (· ∈ S) W w' := by
  obtain ⟨b, hb⟩ : ∃ b, b = q kn := ⟨_, rfl⟩
  have HX : Hid (x ∈ S) := hx
  have HK : Hid (kn ∈ S) := hk
  have HQ : Hid (b ∈ S) := by rw [hb]; exact hq
  have HB : Hid (b = q kn) := hb
  rw [← hb]
  have c1 := h.behind hk
  rw [← hb] at c1
  have f0 := h.free hx
  have i1 := h.ahead hx
  have i2 := h.behind hx
  have T0 := Tu.refl (· ∈ S) W
  have L0 : Hid (Es W S key val p q) := h
  clear hb h hx hq hk
  go_enter Try.func32, Try.ntmps32
  go_upto_region 1 with fail
  have L1 := (L0.out.setA x kn).setB x b
  have T1 := (T0.set (c := x) (o := 3) (.pointer (some ⟨kn, 0, none⟩)) HX.out).set (c := x) (o := 4) (.pointer (some ⟨b, 0, none⟩)) HX.out
  obtain ⟨W1, hW1⟩ : ∃ W1, W1 = (W.setCell ⟨x, 3, none⟩ (.pointer (some ⟨kn, 0, none⟩))).setCell ⟨x, 4, none⟩ (.pointer (some ⟨b, 0, none⟩)) := ⟨_, rfl⟩
  rw [← hW1] at L1 T1 ⊢
  clear hW1 L0 T0 c1 f0 i1 i2
  have c1 := L1.behind HK.out
  rw [show upd q x b kn = b by unfold upd; split; rfl; exact HB.out.symm] at c1
  have f0 := L1.free HQ.out
  have i1 := L1.ahead HQ.out
  go_upto_region 2 with fail
  have L2 := L1.setA b x
  have T2 := T1.set (c := b) (o := 3) (.pointer (some ⟨x, 0, none⟩)) HQ.out
  obtain ⟨W2, hW2⟩ : ∃ W2, W2 = W1.setCell ⟨b, 3, none⟩ (.pointer (some ⟨x, 0, none⟩)) := ⟨_, rfl⟩
  rw [← hW2] at L2 T2 ⊢
  clear hW2 L1 T1 c1 f0 i1
  have f0 := L2.free HK.out
  have i1 := L2.behind HK.out
  go_wp2_with fail
  go_end0
  exact ⟨rfl, L2.setB kn x, T2.set (c := kn) (o := 4) _ HK.out⟩
/-- .. where what is linked is new. -/
theorem Es.fresh {w : World} {S : List Nat} {key : Nat → κ} {val : Nat → Int} {p q : Nat → Nat} (h : Es w S key val p q) {x a b : Nat} {k : κ} {v : Int} {pa pb : Value} (hx : w.heap[x]? = some (.cells #[.int .i64 k.1, .int .i64 k.2, .int .i64 v, pa, pb] 72 (0, 0))) (hn : x ∉ S) :
    Es ((w.setCell ⟨x, 3, none⟩ (.pointer (some ⟨a, 0, none⟩))).setCell ⟨x, 4, none⟩ (.pointer (some ⟨b, 0, none⟩))) (x :: S) (upd key x k) (upd val x v) (upd p x a) (upd q x b) := by
  refine ((h.other (c := x) (o := 3) _ (fun e he e2 => hn (e2 ▸ he))).other (c := x) (o := 4) _ (fun e he e2 => hn (e2 ▸ he))).more ?_ hn
  rw [block_setCell (block_setCell hx _)]
  rfl
set_option maxHeartbeats 4000000 in
theorem link_new (S : List Nat) (key : Nat → κ) (val : Nat → Int) (p q : Nat → Nat) (kn x : Nat) (k : κ) (v : Int) (pa pb : Value) (W : World) (h : Es W S key val p q) (hk : kn ∈ S) (hn : x ∉ S) (hx : W.heap[x]? = some (.cells #[.int .i64 k.1, .int .i64 k.2, .int .i64 v, pa, pb] 72 (0, 0))) (hq : q kn ∈ S) :
    Calls Try.prog 32 #[.pointer (some ⟨kn, 0, none⟩), .pointer (some ⟨x, 0, none⟩)] W fun e w' => e = .returned (.tuple #[]) ∧ Es w' (x :: S) (upd key x k) (upd val x v) (upd (upd p x kn) (q kn) x) (upd (upd q x (q kn)) kn x) ∧ Tu (· ∈ x :: S) W w' := by
  obtain ⟨b, hb⟩ : ∃ b, b = q kn := ⟨_, rfl⟩
  have HX : Hid (x ∈ x :: S) := List.mem_cons_self
  have HK : Hid (kn ∈ x :: S) := List.mem_cons_of_mem _ hk
  have HQ : Hid (b ∈ x :: S) := by rw [hb]; exact List.mem_cons_of_mem _ hq
  have HB : Hid (b = q kn) := hb
  rw [← hb]
  have c1 := h.behind hk
  rw [← hb] at c1
  have f0 := unfrozen_of_block hx
  have i1 := cell_of_block hx (i := 3)
  have i2 := cell_of_block hx (i := 4)
  have T0 := Tu.refl (· ∈ x :: S) W
  have L0 : Hid (Es ((W.setCell ⟨x, 3, none⟩ (.pointer (some ⟨kn, 0, none⟩))).setCell ⟨x, 4, none⟩ (.pointer (some ⟨b, 0, none⟩))) (x :: S) (upd key x k) (upd val x v) (upd p x kn) (upd q x b)) := h.fresh hx hn
  clear hb h hx hq hk hn
  go_enter Try.func32, Try.ntmps32
  go_upto_region 1 with fail
  have L1 := L0.out
  have T1 := (T0.set (c := x) (o := 3) (.pointer (some ⟨kn, 0, none⟩)) HX.out).set (c := x) (o := 4) (.pointer (some ⟨b, 0, none⟩)) HX.out
  obtain ⟨W1, hW1⟩ : ∃ W1, W1 = (W.setCell ⟨x, 3, none⟩ (.pointer (some ⟨kn, 0, none⟩))).setCell ⟨x, 4, none⟩ (.pointer (some ⟨b, 0, none⟩)) := ⟨_, rfl⟩
  rw [← hW1] at L1 T1 ⊢
  clear hW1 L0 T0 c1 f0 i1 i2
  have c1 := L1.behind HK.out
  rw [show upd q x b kn = b by unfold upd; split; rfl; exact HB.out.symm] at c1
  have f0 := L1.free HQ.out
  have i1 := L1.ahead HQ.out
  go_upto_region 2 with fail
  have L2 := L1.setA b x
  have T2 := T1.set (c := b) (o := 3) (.pointer (some ⟨x, 0, none⟩)) HQ.out
  obtain ⟨W2, hW2⟩ : ∃ W2, W2 = W1.setCell ⟨b, 3, none⟩ (.pointer (some ⟨x, 0, none⟩)) := ⟨_, rfl⟩
  rw [← hW2] at L2 T2 ⊢
  clear hW2 L1 T1 c1 f0 i1
  have f0 := L2.free HK.out
  have i1 := L2.behind HK.out
  go_wp2_with fail
  go_end0
  exact ⟨rfl, L2.setB kn x, T2.set (c := kn) (o := 4) _ HK.out⟩
end Go.Proofs.Ytafhgigkhbcnjaa.LU.K
