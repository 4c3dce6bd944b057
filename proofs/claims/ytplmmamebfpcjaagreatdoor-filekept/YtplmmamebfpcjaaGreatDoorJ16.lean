import Derived.Test.YtplmmamebfpcjaaGreatDoorJ15
import Derived.Test.YtplmmamebfpcjaaGreatDoorJ10
import Derived.Deep.QuietTactic
import Derived.BigQuiet
import Derived.Test.YtplmmamebfpcjaaGreatDoorJ9
import Derived.Test.YtplmmamebfpcjaaGreatDoorJ1
import Derived.Test.YtplmmamebfpcjaaGreatDoorJ11
section
/- What a reading gives: the mathematics. -/
namespace Go.Proofs.YtplmmamebfpcjaaGreatDoor
set_option linter.unusedVariables false
set_option maxRecDepth 100000
theorem many_all {α : Type} {f : Nat → Except Er (α × Nat)} {P : α → Prop} (hf : ∀ p x q, f p = .ok (x, q) → P x) : ∀ {n p : Nat} {l : List (α × Nat)} {q : Nat}, manyP f n p = .ok (l, q) → ∀ y ∈ l, P y.1 := by
  intro n
  induction n with
  | zero => intro p l q h y hy; cases h; cases hy
  | succ n ih =>
    intro p l q h y hy
    cases hx : manyP f n p with
    | error e => rw [manyP_err hx] at h; cases h
    | ok a =>
      obtain ⟨m, r⟩ := a
      rw [manyP_go hx] at h
      cases hr : f r with
      | error e => rw [hr] at h; cases h
      | ok b =>
        obtain ⟨x, s⟩ := b
        rw [hr] at h
        cases h
        rcases List.mem_append.1 hy with h1 | h1
        · exact ih hx y h1
        · simp at h1; subst h1; exact hf _ _ _ hr
theorem andP_ok {α β : Type} {x : Except Er (α × Nat)} {f : α → Nat → Except Er β} {b : β} (h : andP x f = .ok b) : ∃ a p, x = .ok (a, p) ∧ f a p = .ok b := by
  cases x with
  | error e => cases h
  | ok a => exact ⟨a.1, a.2, rfl, h⟩
theorem raw_inv {l : List UInt8} {r : Raw} (h : rawP l = .ok r) : magicP l = none ∧ ∃ n p1 p2 p3 p4 p6, numP l 0 4096 4 4 = .ok (n, p1) ∧ manyP (wordP l) n p1 = .ok (r.ws, p2) ∧ manyP (mgP l) n p2 = .ok (r.ms, p3) ∧ listP l p3 = .ok (r.A, p4) ∧ listP l p4 = .ok (r.B, r.blank) ∧ listP l r.blank = .ok (r.C, p6) ∧ sumP l p6 = .ok () := by
  unfold rawP at h
  cases h0 : magicP l with
  | some i => rw [h0] at h; cases h
  | none =>
    rw [h0] at h
    simp only at h
    obtain ⟨r0, p, h1, h2⟩ := andP_ok h
    unfold bodyP at h1
    obtain ⟨n, p1, k1, h1⟩ := andP_ok h1
    obtain ⟨ws, p2, k2, h1⟩ := andP_ok h1
    obtain ⟨ms, p3, k3, h1⟩ := andP_ok h1
    obtain ⟨A, p4, k4, h1⟩ := andP_ok h1
    obtain ⟨B, p5, k5, h1⟩ := andP_ok h1
    obtain ⟨C, p6, k6, h1⟩ := andP_ok h1
    cases h1
    cases hs : sumP l p with
    | error e => rw [hs] at h2; cases h2
    | ok u =>
      rw [hs] at h2
      cases h2
      exact ⟨rfl, n, p1, p2, p3, p4, p, k1, k2, k3, k4, k5, k6, hs⟩
theorem mgP_bd {l : List UInt8} {p q : Nat} {x : Mg} (h : mgP l p = .ok (x, q)) : (0 ≤ x.l ∧ x.l ≤ 2147483647) ∧ (0 ≤ x.r ∧ x.r ≤ 2147483647) ∧ (0 ≤ x.i ∧ x.i ≤ 2147483647) := by
  unfold mgP idP at h
  obtain ⟨a, p1, k1, h⟩ := andP_ok h
  obtain ⟨b, p2, k2, h⟩ := andP_ok h
  obtain ⟨c, p3, k3, h⟩ := andP_ok h
  cases h
  have := numP_inv k1
  have := numP_inv k2
  have := numP_inv k3
  refine ⟨⟨?_, ?_⟩, ⟨?_, ?_⟩, ?_, ?_⟩ <;> simp only <;> omega
theorem spP_bd {l : List UInt8} {p q : Nat} {x : Sp} (h : spP l p = .ok (x, q)) : (0 ≤ x.lo ∧ x.lo ≤ 1114111) ∧ (0 ≤ x.hi ∧ x.hi ≤ 1114111) := by
  unfold spP endP at h
  obtain ⟨a, p1, k1, h⟩ := andP_ok h
  obtain ⟨b, p2, k2, h⟩ := andP_ok h
  cases h
  have := numP_inv k1
  have := numP_inv k2
  refine ⟨⟨?_, ?_⟩, ?_, ?_⟩ <;> simp only <;> omega
theorem listP_len {l : List UInt8} {p q : Nat} {x : List (Sp × Nat)} (h : listP l p = .ok (x, q)) : x.length ≤ 512 := by
  unfold listP at h
  obtain ⟨n, p1, k1, h⟩ := andP_ok h
  have := numP_inv k1
  have := manyP_len h
  omega
structure RawOk (r : Raw) : Prop where
  nw : r.ws.length ≤ 4096
  nm : r.ms.length = r.ws.length
  na : r.A.length ≤ 512
  nb : r.B.length ≤ 512
  nc : r.C.length ≤ 512
  ms : ∀ x ∈ r.M, (0 ≤ x.l ∧ x.l ≤ 2147483647) ∧ (0 ≤ x.r ∧ x.r ≤ 2147483647) ∧ (0 ≤ x.i ∧ x.i ≤ 2147483647)
theorem raw_ok {l : List UInt8} {r : Raw} (h : rawP l = .ok r) : RawOk r := by
  obtain ⟨_, n, p1, p2, p3, p4, p6, k1, k2, k3, k4, k5, k6, k7⟩ := raw_inv h
  have h1 := numP_inv k1
  have h2 := manyP_len k2
  have h3 := manyP_len k3
  refine ⟨by omega, by omega, listP_len k4, listP_len k5, listP_len k6, fun x hx => ?_⟩
  obtain ⟨y, hy, rfl⟩ := List.mem_map.1 hx
  exact many_all (P := fun x => (0 ≤ x.l ∧ x.l ≤ 2147483647) ∧ (0 ≤ x.r ∧ x.r ≤ 2147483647) ∧ (0 ≤ x.i ∧ x.i ≤ 2147483647)) (fun p x q hh => mgP_bd hh) k3 y hy
end Go.Proofs.YtplmmamebfpcjaaGreatDoor
end
section
/- reader.place: its contract. -/
namespace Go.Proofs.YtplmmamebfpcjaaGreatDoor
open Go.RowKit Go.Sort Go.Joins
set_option linter.unusedVariables false
set_option maxRecDepth 100000
theorem checkA_li {A B C : List Sp} (h : (checkA A B C).1 ≠ 0) : 1 ≤ (checkA A B C).2.1 ∧ (checkA A B C).2.1 ≤ 3 := by
  unfold checkA at h ⊢
  cases hf : (List.range 9).find? (fun q => decide ((ent A B C q).2 ≠ 0)) with
  | some q => simp only; omega
  | none =>
    rw [hf] at h
    simp only at h ⊢
    by_cases hb : blankB A B C = true
    · rw [if_pos hb]; exact ⟨by decide, by decide⟩
    · rw [if_neg hb] at h; exact absurd rfl h
theorem checkD_li {ws : List ByteArray} {ms : List Mg} {A B C : List Sp} (h : (checkD ws ms A B C).1 ≠ 0) : 1 ≤ (checkD ws ms A B C).2.1 ∧ (checkD ws ms A B C).2.1 ≤ 5 := by
  unfold checkD at h ⊢
  by_cases h1 : 4096 < ms.length
  · rw [if_pos h1]; exact ⟨by decide, by decide⟩
  · rw [if_neg h1] at h ⊢
    by_cases h2 : ws.length ≠ ms.length
    · rw [if_pos h2]; exact ⟨by show 1 ≤ 4; omega, by show 4 ≤ 5; omega⟩
    · rw [if_neg h2] at h ⊢
      by_cases h3 : (checkA A B C).1 ≠ 0
      · rw [if_pos h3]; have := checkA_li h3; omega
      · rw [if_neg h3] at h ⊢
        by_cases h4 : (firstBad (badW ws) ws.length).1 ≠ 0
        · rw [if_pos h4]; exact ⟨by show 1 ≤ 4; omega, by show 4 ≤ 5; omega⟩
        · rw [if_neg h4] at h ⊢
          by_cases h5 : (firstBad (badM ws ms) ms.length).1 ≠ 0
          · rw [if_pos h5]; exact ⟨by show 1 ≤ 5; omega, by show 5 ≤ 5; omega⟩
          · rw [if_neg h5] at h; exact absurd rfl h
theorem AllAt.place {w : World} {B : Nat} {s : RS} {r : Raw} (h : AllAt w B s r) {li : Nat} (h1 : 1 ≤ li) (h2 : li ≤ 5) : RowI w B (s.P li) (placesR r li) := by
  rcases (show li = 1 ∨ li = 2 ∨ li = 3 ∨ li = 4 ∨ li = 5 by omega) with rfl | rfl | rfl | rfl | rfl
  · exact h.ap
  · exact h.bp
  · exact h.cp
  · exact h.wp
  · exact h.mp
theorem RowI.cells {w : World} {B : Nat} {v : Value} {l : List Nat} (h : RowI w B v l) : ∃ x c, v = .slice x l.length c ∧ (l = [] ∨ ∃ b, x = some ⟨b, 0, none⟩ ∧ ∀ i k, l[i]? = some k → w.cell? ⟨b, i, none⟩ = some (.int .i64 (k : Nat))) := by
  rcases h.2 with ⟨hv, h0⟩ | ⟨g, cap, cur, rfl, hg, hh, hn, hm, hcs, ht⟩
  · exact ⟨none, 0, by rw [hv, h0], .inl (List.length_eq_zero_iff.1 h0)⟩
  · refine ⟨_, cap, rfl, .inr ⟨g, rfl, fun i k hk => ?_⟩⟩
    have hi := (List.getElem?_eq_some_iff.1 hk).1
    rw [World.ownsRow.cellAt h i (by omega)]
    simp [cellsI, hk]
set_option maxHeartbeats 4000000 in
theorem place_any (g B q y li ro : Nat) (s : RS) (r : Raw) (w : World) (hr : Rx w g s (.ok q)) (ha : AllAt w B s r) (h1 : 1 ≤ li) (h2 : li ≤ 5) :
    Calls Tryz.prog 40 #[.pointer (some ⟨g, 0, none⟩), .agg #[.int .i64 (y : Nat), .int .i64 (li : Nat), .int .i64 (ro : Nat)]] w fun e w' => e = .returned (.int .i64 ((placeR r li ro : Nat))) ∧ Below w.heap.size w w' := by
  have hb0 := box_below w (.cells #[.int .i64 (y : Nat), .int .i64 (li : Nat), .int .i64 (ro : Nat)] 65)
  have hN := Blk.new w (.cells #[.int .i64 (y : Nat), .int .i64 (li : Nat), .int .i64 (ro : Nat)] 65)
  have d1 := hN.cell 1
  have d2 := hN.cell 2
  have hx0 : Rx (w.alloc (.cells #[.int .i64 (y : Nat), .int .i64 (li : Nat), .int .i64 (ro : Nat)] 65)) g s (.ok q) := Rx.below hr hb0
  have hI := (ha.place h1 h2).kt (KT.of_below hb0)
  have hbl := ha.bl
  have c14 := RB.c14 (s := { s with p := q, no := none }) hx0
  have cP : (w.alloc (.cells #[.int .i64 (y : Nat), .int .i64 (li : Nat), .int .i64 (ro : Nat)] 65)).cell? ⟨g, 8 + li, none⟩ = some (s.P li) := RB.cellP (s := { s with p := q, no := none }) hx0 (by omega)
  obtain ⟨x, c, hv, hc⟩ := hI.cells
  rw [hv] at cP
  simp only at c14
  rw [hbl] at c14
  obtain ⟨Y, hY⟩ : ∃ Y, Y = w.alloc (.cells #[.int .i64 (y : Nat), .int .i64 (li : Nat), .int .i64 (ro : Nat)] 65) := ⟨_, rfl⟩
  have i1 : (0 : Int) ≤ (li : Int) := by omega
  have i2 : (li : Int) < 6 := by omega
  have i3 : (0 : Int) ≤ (ro : Int) := by omega
  obtain ⟨m, hm⟩ : ∃ m, m = (placesR r li).length := ⟨_, rfl⟩
  rw [← hm] at cP
  have HM : Hid (m = (placesR r li).length) := hm
  have HC : Hid (placesR r li = [] ∨ ∃ b, x = some ⟨b, 0, none⟩ ∧ ∀ i k, (placesR r li)[i]? = some k → Y.cell? ⟨b, i, none⟩ = some (.int .i64 (k : Nat))) := by rw [hY]; exact hc
  rw [← hY] at hb0 hN cP c14 d1 d2
  have HY : Hid (Y = w.alloc (.cells #[.int .i64 (y : Nat), .int .i64 (li : Nat), .int .i64 (ro : Nat)] 65)) := hY
  clear hr ha hx0 hI hbl hv hc hm hN hY
  by_cases hlt : ro < m
  · have hI : (ro : Int) < (m : Int) := by omega
    rcases HC.out with h0 | ⟨b, hx, hcc⟩
    · have := HM.out; rw [h0] at this; simp at this; omega
    · have hrl : ro < (placesR r li).length := by rw [← HM.out]; exact hlt
      have cc := hcc ro _ (List.getElem?_eq_getElem hrl)
      rw [hx] at cP
      have hp : placeR r li ro = (placesR r li)[ro] := by unfold placeR; simp [hrl]
      obtain ⟨pl, hpl⟩ : ∃ pl, pl = (placesR r li)[ro] := ⟨_, rfl⟩
      rw [← hpl] at cc hp
      rw [hp]
      clear hp hpl hcc hx
      go_enter Tryz.func40, Tryz.ntmps40
      go_wp2_with fail
      rw [← HY.out]
      go_quiet (fail)
      go_wp2_with fail
      go_ret
      exact ⟨rfl, hb0.trans ((below_drawn Y _).mono hb0.size)⟩
  · have hI : ¬ (ro : Int) < (m : Int) := by omega
    have hp : placeR r li ro = r.blank := by unfold placeR; rw [List.getD_eq_getElem?_getD, List.getElem?_eq_none (by rw [← HM.out]; omega)]; rfl
    rw [hp]
    clear hp
    go_enter Tryz.func40, Tryz.ntmps40
    go_wp2_with fail
    rw [← HY.out]
    go_quiet (fail)
    go_wp2_with fail
    go_ret
    exact ⟨rfl, hb0.trans ((below_drawn Y _).mono hb0.size)⟩
end Go.Proofs.YtplmmamebfpcjaaGreatDoor
end
section
/- file.Load: its contract. -/
namespace Go.Proofs.YtplmmamebfpcjaaGreatDoor
open Go.RowKit Go.Sort Go.Joins
set_option linter.unusedVariables false
set_option maxRecDepth 100000
theorem AllAt.below {w w' : World} {B : Nat} {s : RS} {r : Raw} (h : AllAt w B s r) (hb : Below w.heap.size w w') : AllAt w' B s r :=
  ⟨h.wr.kt (KT.of_below hb), h.wp.kt (KT.of_below hb), h.mr.kt (KT.of_below hb), h.mp.kt (KT.of_below hb), h.ar.kt (KT.of_below hb), h.ap.kt (KT.of_below hb), h.br.kt (KT.of_below hb), h.bp.kt (KT.of_below hb), h.cr.kt (KT.of_below hb), h.cp.kt (KT.of_below hb), h.bl⟩
theorem RowW.wsp {w : World} {B : Nat} {v : Value} {l : List ByteArray} (h : RowW w B v l) : ∃ x c, v = .slice x l.length c ∧ WSP w x l := by
  rcases h.2 with ⟨hv, h0⟩ | ⟨g, cap, cur, rfl, hg, hh, hn, hm, hcs, ht⟩
  · exact ⟨none, 0, by rw [hv, h0], .inl (List.length_eq_zero_iff.1 h0)⟩
  · refine ⟨_, cap, rfl, .inr ⟨g, 0, rfl, fun i k hk => ?_⟩⟩
    have hi := (List.getElem?_eq_some_iff.1 hk).1
    rw [Nat.zero_add, World.ownsRow.cellAt h i (by omega)]
    exact cellsW_get hk
theorem RowM.msp {w : World} {B : Nat} {v : Value} {l : List Mg} (h : RowM w B v l) : ∃ x c, v = .slice x l.length c ∧ MSP w x l := by
  rcases h.2 with ⟨hv, h0⟩ | ⟨g, cap, cur, rfl, hg, hh, hn, hm, hcs, ht⟩
  · exact ⟨none, 0, by rw [hv, h0], .inl (List.length_eq_zero_iff.1 h0)⟩
  · refine ⟨_, cap, rfl, .inr ⟨g, 0, rfl, fun i x hx => ?_⟩⟩
    have hi := (List.getElem?_eq_some_iff.1 hx).1
    obtain ⟨r0, r1, r2⟩ := cellsM_get l i x hx
    unfold MgAt
    rw [Nat.zero_add, World.ownsRow.cellAt h (i * 3) (by omega), World.ownsRow.cellAt h (i * 3 + 1) (by omega), World.ownsRow.cellAt h (i * 3 + 2) (by omega)]
    exact ⟨r0, r1, r2⟩
theorem RowS.lst {w : World} {B : Nat} {v : Value} {l : List Sp} (h : RowS w B v l) : ∃ x c, v = .slice x l.length c ∧ Lst w x c l := by
  rcases h.2 with ⟨hv, h0⟩ | ⟨g, cap, cur, rfl, hg, hh, hn, hm, hcs, ht⟩
  · exact ⟨none, 0, by rw [hv, h0], ⟨by omega, by omega, .inl (List.length_eq_zero_iff.1 h0)⟩⟩
  · refine ⟨_, cap, rfl, ⟨hn, by simpa [maxLen] using hm, .inr ⟨g, 0, rfl, fun i x hx => ?_⟩⟩⟩
    have hi := (List.getElem?_eq_some_iff.1 hx).1
    obtain ⟨r0, r1⟩ := cellsS_get l i x hx
    unfold SpAt
    rw [Nat.zero_add, World.ownsRow.cellAt h (i * 2) (by omega), World.ownsRow.cellAt h (i * 2 + 1) (by omega)]
    exact ⟨r0, r1⟩
/-- What Load leaves. -/
def LoadQ (w w' : World) (l : List UInt8) (e : Ending) : Prop :=
  match loadR l with
  | .error r => ∃ N, e = .returned (.tuple #[.pointer none, .iface 83 (.pointer (some ⟨N, 0, none⟩))]) ∧ w.heap.size ≤ N ∧ Rf w' N r
  | .ok r => ∃ g, e = .returned (.tuple #[.pointer (some ⟨g, 0, none⟩), .nilIface]) ∧ ModelAt w' w.heap.size g r.W r.M r.X r.Y r.Z
theorem loadR_long {l : List UInt8} (h : 4194304 < l.length) : loadR l = .error (0, 3) := by unfold loadR; rw [if_pos h]
theorem loadR_raw {l : List UInt8} (h : ¬ 4194304 < l.length) {e : Er} (h2 : rawP l = .error e) : loadR l = .error e := by unfold loadR; rw [if_neg h, h2]
theorem loadR_ok {l : List UInt8} (h : ¬ 4194304 < l.length) {r : Raw} (h2 : rawP l = .ok r) (h3 : (checkD r.W r.M r.X r.Y r.Z).1 = 0) : loadR l = .ok r := by
  unfold loadR; rw [if_neg h, h2]; simp only; rw [if_pos h3]
theorem loadR_no {l : List UInt8} (h : ¬ 4194304 < l.length) {r : Raw} (h2 : rawP l = .ok r) (h3 : (checkD r.W r.M r.X r.Y r.Z).1 ≠ 0) : loadR l = .error (placeR r (checkD r.W r.M r.X r.Y r.Z).2.1 (checkD r.W r.M r.X r.Y r.Z).2.2, (checkD r.W r.M r.X r.Y r.Z).1) := by
  unfold loadR; rw [if_neg h, h2]; simp only; rw [if_neg h3]
abbrev nilS : Value := .slice none 0 0
def rs0 (a : Option Addr) (n c : Nat) : RS := ⟨a, n, c, 0, none, nilS, nilS, nilS, nilS, nilS, fun _ => nilS, 0⟩
abbrev rdO (a : Option Addr) (n c : Nat) : Obj := .cells #[.slice a n c, .int .i64 0, .pointer none, nilS, nilS, nilS, nilS, nilS, nilS, nilS, nilS, nilS, nilS, nilS, .int .i64 0] 88
theorem rd_new (w : World) (a : Option Addr) (n c : Nat) : Rx (w.alloc (rdO a n c)) w.heap.size (rs0 a n c) (.ok 0) := heap_alloc_new _ _
theorem RowOf.mwf {r : Raw} (h : RawOk r) : MWf r.M := by
  intro i x hx
  have := h.ms x (List.mem_of_getElem? hx)
  unfold W64
  omega
theorem Raw.lenW (r : Raw) : r.W.length = r.ws.length := by simp [Raw.W]
theorem Raw.lenM (r : Raw) : r.M.length = r.ms.length := by simp [Raw.M]
theorem firstBad_le (f : Nat → Nat) (n : Nat) : (firstBad f n).2 ≤ n := by
  rcases firstBad_cases f n with ⟨_, h⟩ | ⟨k, h1, _, _, h⟩
  · rw [h]; exact Nat.zero_le _
  · rw [h]; exact Nat.le_of_lt h1
set_option maxHeartbeats 1000000 in
theorem load_any (a : Option Addr) (c : Nat) (l : List UInt8) (w : World) (hlen : l.length ≤ 9223372036854775807) (hcap : l.length ≤ c) (hbs : Oc.BS w a l) (hG : GL w) :
    Calls Tryz.prog 14 #[.slice a l.length c] w fun e w' => LoadQ w w' l e ∧ Below w.heap.size w w' := by
  by_cases hl : 4194304 < l.length
  · have hlI : (4194304 : Int) < (l.length : Int) := by omega
    have hb := box_below w (.cells #[.int .i64 0, .int .i64 3] 85)
    have hN := heap_alloc_new w (.cells #[.int .i64 0, .int .i64 3] 85)
    go_enter Tryz.func14, Tryz.ntmps14
    go_wp2_with fail
    go_ret2
    refine ⟨?_, hb⟩
    unfold LoadQ
    rw [loadR_long hl]
    exact ⟨_, rfl, Nat.le_refl _, hN⟩
  · have hlI : ¬ (4194304 : Int) < (l.length : Int) := by omega
    have hb0 := box_below w (rdO a l.length c)
    have hx0 := rd_new w a l.length c
    obtain ⟨Y, hY⟩ : ∃ Y, Y = w.alloc (rdO a l.length c) := ⟨_, rfl⟩
    have hYs : Y.heap.size = w.heap.size + 1 := by rw [hY]; simp
    rw [← hY] at hb0 hx0
    have hA := all_any w.heap.size Y.heap.size 0 (rs0 a l.length c) l w Y ⟨rfl, hcap, by omega, hbs, hb0, Nat.le_refl _, by omega, Nat.le_refl _⟩ hx0 rfl rfl rfl rfl rfl rfl rfl
    have HY : Hid (Y = w.alloc (rdO a l.length c)) := hY
    have HYs : Hid (Y.heap.size = w.heap.size + 1) := hYs
    have HG : Hid (GL w) := hG
    clear hbs hY hx0 hG hYs
    cases hraw : rawP l with
    | error r =>
      rw [hraw] at hA
      have hLR := loadR_raw hl hraw
      unfold LoadQ
      rw [hLR]
      clear hLR hraw
      go_enter Tryz.func14, Tryz.ntmps14
      go_wp2_with fail
      rw [← HY.out]
      refine hA.mono ?_
      rintro e w1 ⟨rfl, hb1, s', ⟨p1, N, k1, k3, k4⟩, -⟩
      have B1 : Below w.heap.size w w1 := hb0.trans (hb1.below hb0.size (Nat.le_refl _))
      have c2 := k1.c2
      simp only at c2
      clear hA k1 hb1
      go_wp2_with fail
      go_quiet (fail)
      go_wp2_with fail
      go_ret2
      exact ⟨⟨N, rfl, Nat.le_of_lt k3, k4.below (below_drawn w1 _) k4.lt⟩, B1.trans ((below_drawn w1 _).mono B1.size)⟩
    | ok r =>
      rw [hraw] at hA
      have hrk := raw_ok hraw
      have hmwf := RowOf.mwf hrk
      have hnw := hrk.nw
      have hlw := r.lenW
      have hlm := r.lenM
      have hnm := hrk.nm
      have hli := checkD_li (ws := r.W) (ms := r.M) (A := r.X) (B := r.Y) (C := r.Z)
      have hno := loadR_no hl hraw
      have hok := loadR_ok hl hraw
      have hnew := fun aw am aa ab ac cw cm ca cb cc wx h1 h2 h3 h4 h5 h6 => mnew_any aw am aa ab ac cw cm ca cb cc r.W r.M r.X r.Y r.Z wx hmwf (by rw [hlw]; omega) h1 h2 h3 h4 h5 h6
      obtain ⟨⟨y, li, ro⟩, hq⟩ : ∃ k, k = checkD r.W r.M r.X r.Y r.Z := ⟨_, rfl⟩
      rw [← hq] at hli hno hok hnew
      unfold f3V at hnew
      simp only at hli hno hok hnew
      have HNEW : Hid _ := hnew
      unfold LoadQ
      clear hraw hnew hq hmwf hrk hlw hlm hnm hnw
      by_cases hy : y = 0
      · rw [hok hy]
        subst hy
        clear hok hno hli
        go_enter Tryz.func14, Tryz.ntmps14
        go_wp2_with fail
        rw [← HY.out]
        refine hA.mono ?_
        rintro e w1 ⟨rfl, hb1, s', q, hx1, ha1⟩
        have B1 : Below w.heap.size w w1 := hb0.trans (hb1.below hb0.size (Nat.le_refl _))
        obtain ⟨aw, cw, ew, hW⟩ := ha1.wr.wsp
        obtain ⟨am, cm, em, hM⟩ := ha1.mr.msp
        obtain ⟨aa, ca, ea, hA1⟩ := ha1.ar.lst
        obtain ⟨ab, cb, eb, hB1⟩ := ha1.br.lst
        obtain ⟨ac, cc, ec, hC1⟩ := ha1.cr.lst
        have c2 : w1.cell? ⟨w.heap.size, 2, none⟩ = some (.pointer none) := RB.c2 (s := { s' with p := q, no := none }) hx1
        have c3 : w1.cell? ⟨w.heap.size, 3, none⟩ = some (.slice aw r.W.length cw) := (RB.c3 (s := { s' with p := q, no := none }) hx1).trans (congrArg some ew)
        have c4 : w1.cell? ⟨w.heap.size, 4, none⟩ = some (.slice am r.M.length cm) := (RB.c4 (s := { s' with p := q, no := none }) hx1).trans (congrArg some em)
        have c5 : w1.cell? ⟨w.heap.size, 5, none⟩ = some (.slice aa r.X.length ca) := (RB.c5 (s := { s' with p := q, no := none }) hx1).trans (congrArg some ea)
        have c6 : w1.cell? ⟨w.heap.size, 6, none⟩ = some (.slice ab r.Y.length cb) := (RB.c6 (s := { s' with p := q, no := none }) hx1).trans (congrArg some eb)
        have c7 : w1.cell? ⟨w.heap.size, 7, none⟩ = some (.slice ac r.Z.length cc) := (RB.c7 (s := { s' with p := q, no := none }) hx1).trans (congrArg some ec)
        have HN1 := HNEW.out aw am aa ab ac cw cm ca cb cc w1 hW hM hA1 hB1 hC1 (HG.out.below B1)
        have HX1 : Hid (Rx w1 w.heap.size s' (.ok q)) := hx1
        have HA1 : Hid (AllAt w1 Y.heap.size s' r) := ha1
        clear hA hb1 hx1 ha1 ew em ea eb ec hW hM hA1 hB1 hC1
        go_wp2_with fail
        refine HN1.mono ?_
        rintro e w2 ⟨p, rfl, hp1, hp2, hb2⟩
        simp only []
        have hbn := box_below w2 (.cells #[.int .i64 ((0 : Nat) : Int), .int .i64 (li : Nat), .int .i64 (ro : Nat)] 65)
        have B2 := B1.trans (hb2.mono B1.size)
        have B3 := B2.trans (hbn.mono B2.size)
        have hF := Blk.new w2 (.cells #[.int .i64 ((0 : Nat) : Int), .int .i64 (li : Nat), .int .i64 (ro : Nat)] 65)
        clear HN1 c2 c3 c4 c5 c6 c7
        obtain ⟨gm, rfl, hMd⟩ := hp1 (by trivial)
        have HMd := (hMd.below hbn).low (lo' := w.heap.size) B1.size
        have f0 := hF.cell 0
        rw [show ((0 : Nat) : Int) = 0 from rfl] at f0 HMd B3 ⊢
        clear hp1 hp2 hMd hF hbn hb2
        go_wp2_with fail
        go_ret2
        exact ⟨⟨gm, rfl, HMd⟩, B3⟩
      · rw [hno hy]
        obtain ⟨hl1, hl2⟩ := hli hy
        clear hok hno hli
        go_enter Tryz.func14, Tryz.ntmps14
        go_wp2_with fail
        rw [← HY.out]
        refine hA.mono ?_
        rintro e w1 ⟨rfl, hb1, s', q, hx1, ha1⟩
        have B1 : Below w.heap.size w w1 := hb0.trans (hb1.below hb0.size (Nat.le_refl _))
        obtain ⟨aw, cw, ew, hW⟩ := ha1.wr.wsp
        obtain ⟨am, cm, em, hM⟩ := ha1.mr.msp
        obtain ⟨aa, ca, ea, hA1⟩ := ha1.ar.lst
        obtain ⟨ab, cb, eb, hB1⟩ := ha1.br.lst
        obtain ⟨ac, cc, ec, hC1⟩ := ha1.cr.lst
        have c2 : w1.cell? ⟨w.heap.size, 2, none⟩ = some (.pointer none) := RB.c2 (s := { s' with p := q, no := none }) hx1
        have c3 : w1.cell? ⟨w.heap.size, 3, none⟩ = some (.slice aw r.W.length cw) := (RB.c3 (s := { s' with p := q, no := none }) hx1).trans (congrArg some ew)
        have c4 : w1.cell? ⟨w.heap.size, 4, none⟩ = some (.slice am r.M.length cm) := (RB.c4 (s := { s' with p := q, no := none }) hx1).trans (congrArg some em)
        have c5 : w1.cell? ⟨w.heap.size, 5, none⟩ = some (.slice aa r.X.length ca) := (RB.c5 (s := { s' with p := q, no := none }) hx1).trans (congrArg some ea)
        have c6 : w1.cell? ⟨w.heap.size, 6, none⟩ = some (.slice ab r.Y.length cb) := (RB.c6 (s := { s' with p := q, no := none }) hx1).trans (congrArg some eb)
        have c7 : w1.cell? ⟨w.heap.size, 7, none⟩ = some (.slice ac r.Z.length cc) := (RB.c7 (s := { s' with p := q, no := none }) hx1).trans (congrArg some ec)
        have HN1 := HNEW.out aw am aa ab ac cw cm ca cb cc w1 hW hM hA1 hB1 hC1 (HG.out.below B1)
        have HX1 : Hid (Rx w1 w.heap.size s' (.ok q)) := hx1
        have HA1 : Hid (AllAt w1 Y.heap.size s' r) := ha1
        clear hA hb1 hx1 ha1 ew em ea eb ec hW hM hA1 hB1 hC1
        go_wp2_with fail
        refine HN1.mono ?_
        rintro e w2 ⟨p, rfl, hp1, hp2, hb2⟩
        simp only []
        have hbn := box_below w2 (.cells #[.int .i64 (y : Nat), .int .i64 (li : Nat), .int .i64 (ro : Nat)] 65)
        have B2 := B1.trans (hb2.mono B1.size)
        have B3 := B2.trans (hbn.mono B2.size)
        have hF := Blk.new w2 (.cells #[.int .i64 (y : Nat), .int .i64 (li : Nat), .int .i64 (ro : Nat)] 65)
        clear HN1 c2 c3 c4 c5 c6 c7
        obtain rfl := hp2 hy
        have hne : ((y : Int) == 0) = false := by simp; omega
        obtain ⟨w3, hw3⟩ : ∃ w3, w3 = w2.alloc (.cells #[.int .i64 (y : Nat), .int .i64 (li : Nat), .int .i64 (ro : Nat)] 65) := ⟨_, rfl⟩
        have f0 := hF.cell 0
        have f1 := hF.cell 1
        have f2 := hF.cell 2
        have B23 : Below w1.heap.size w1 w3 := by rw [hw3]; exact hb2.trans (hbn.mono hb2.size)
        have hx3 : Rx w3 w.heap.size s' (.ok q) := Rx.below HX1.out B23
        have ha3 : AllAt w3 Y.heap.size s' r := HA1.out.below B23
        rw [← hw3] at B3 hF
        have hd : Below w3.heap.size w3 w3.drew := (Below.refl _ _).drew
        have hP := place_any w.heap.size Y.heap.size q y li ro s' r w3.drew (Rx.below hx3 hd) (ha3.below hd) hl1 hl2
        obtain ⟨z2, hz2⟩ : ∃ z2, z2 = w2.heap.size := ⟨_, rfl⟩
        have HW3 : Hid (w3 = w2.alloc (.cells #[.int .i64 (y : Nat), .int .i64 (li : Nat), .int .i64 (ro : Nat)] 65)) := hw3
        have HF : Hid (Blk w3 z2 (.cells #[.int .i64 (y : Nat), .int .i64 (li : Nat), .int .i64 (ro : Nat)] 65)) := by rw [hz2]; exact hF
        clear hp1 hp2 hF hbn hb2 hx3 ha3 hw3
        obtain ⟨pl, hpl⟩ : ∃ pl, pl = placeR r li ro := ⟨_, rfl⟩
        rw [← hpl] at hP
        have HPL : Hid (pl = placeR r li ro) := hpl
        have HZ2 : Hid (z2 = w2.heap.size) := hz2
        clear hpl hz2
        go_wp2_with fail
        rw [← HW3.out]
        rw [← HZ2.out]
        clear f0 f1 f2
        have f0 : w3.cell? ⟨z2, 0, none⟩ = some (.int .i64 (y : Nat)) := HF.out.cell 0
        have f1 : w3.cell? ⟨z2, 1, none⟩ = some (.int .i64 (li : Nat)) := HF.out.cell 1
        have f2 : w3.cell? ⟨z2, 2, none⟩ = some (.int .i64 (ro : Nat)) := HF.out.cell 2
        go_region_held3 (fun w' => w'.cell? ⟨z2, 0, none⟩ = some (.int .i64 (y : Nat)) ∧ w'.cell? ⟨z2, 1, none⟩ = some (.int .i64 (li : Nat)) ∧ w'.cell? ⟨z2, 2, none⟩ = some (.int .i64 (ro : Nat))) (go_keep) ((go_at_call 40; refine hP.mono ?_; rintro e w4 ⟨rfl, hb4⟩; have B4 := (HF.out.up hd).up hb4; have u0 : w4.cell? ⟨z2, 0, none⟩ = some (.int .i64 (y : Nat)) := B4.cell 0; have u1 : w4.cell? ⟨z2, 1, none⟩ = some (.int .i64 (li : Nat)) := B4.cell 1; have u2 : w4.cell? ⟨z2, 2, none⟩ = some (.int .i64 (ro : Nat)) := B4.cell 2; have v0 := cell_new u0; have v1 := cell_new u1; have v2 := cell_new u2))
        have B4' : Below w.heap.size w w4 := (B3.trans (hd.mono B3.size)).trans (hb4.mono (Nat.le_trans B3.size hd.size))
        have hb5 := box_below w4 (.cells #[.int .i64 (pl : Nat), .int .i64 (y : Nat)] 85)
        have hN5 := heap_alloc_new w4 (.cells #[.int .i64 (pl : Nat), .int .i64 (y : Nat)] 85)
        have B5 := B4'.trans (hb5.mono B4'.size)
        clear f0 f1 f2 u0 u1 u2 v0 v1 v2
        go_wp2_with fail
        go_ret2
        exact ⟨⟨w4.heap.size, rfl, B4'.size, by rw [← HPL.out]; exact hN5⟩, B5⟩
end Go.Proofs.YtplmmamebfpcjaaGreatDoor
end
section
/- What a right model's file is made of: bounds; lengths. -/
namespace Go.Proofs.YtplmmamebfpcjaaGreatDoor
open Oc
set_option linter.unusedVariables false
set_option maxRecDepth 100000
def Mb (ms : List Mg) : Prop := ∀ (i : Nat) x, ms[i]? = some x → (0 ≤ x.l ∧ x.l ≤ 8192) ∧ (0 ≤ x.r ∧ x.r ≤ 8192) ∧ (256 ≤ x.i ∧ x.i ≤ 8192)
def Sb (l : List Sp) : Prop := ∀ (i : Nat) x, l[i]? = some x → (0 ≤ x.lo ∧ x.lo ≤ 1114111) ∧ (0 ≤ x.hi ∧ x.hi ≤ 1114111)
theorem made_bd {ms : List Mg} {n : Nat} {id : Int} {N : Int} (h : madeM ms n id = true) (hb : ∀ x ∈ ms, x.i ≤ N) (hN : 256 ≤ N) : 0 ≤ id ∧ id ≤ N := by
  unfold madeM at h
  simp only [Bool.or_eq_true, Bool.and_eq_true, decide_eq_true_eq, List.any_eq_true, beq_iff_eq] at h
  rcases h with ⟨h1, h2⟩ | ⟨h1, x, hx, h2⟩
  · omega
  · have := hb x (List.mem_of_mem_take hx)
    omega
theorem MOk.mb {ws : List ByteArray} {ms : List Mg} {A B C : List Sp} (h : MOk ws ms A B C) : Mb ms := by
  have h1 := firstBad_none h.cuts
  rw [← first_cut h.words ms.length] at h1
  have h2 := firstBad_zero (f := cutM ws ms) (n := ms.length) (by rw [h1])
  have hm4 := h.m4
  have hnm := h.nm
  have hi : ∀ x ∈ ms, x.i ≤ 8192 := fun x hx => by
    obtain ⟨i, hi, hxi⟩ := List.getElem_of_mem hx
    have h3 := cutM_zero (ws := ws) (List.getElem?_eq_some_iff.2 ⟨hi, hxi⟩) (h2 i hi)
    omega
  intro i x hx
  have hil := (List.getElem?_eq_some_iff.1 hx).1
  obtain ⟨k1, k2, k3, k4, k5, k6⟩ := cutM_zero hx (h2 i hil)
  exact ⟨made_bd k4 hi (by omega), made_bd k5 hi (by omega), k1, by omega⟩
theorem Rgt.sb {l : List Sp} (h : Rgt l) : Sb l := by
  intro i x hx
  obtain ⟨h1, h2, _⟩ := h.row hx
  rw [runeB_iff] at h1 h2
  omega
/-- The spans of the first k lists. -/
def spF3 (A B C : List Sp) (k : Nat) : List UInt8 := ([spansF A, spansF B, spansF C].take k).flatten
theorem MOk.sb {ws : List ByteArray} {ms : List Mg} {A B C : List Sp} (h : MOk ws ms A B C) : Sb A ∧ Sb B ∧ Sb C := by
  have := (check_pass h.cls).1.rgt (by omega)
  exact ⟨this.1.sb, this.2.1.sb, this.2.2.sb⟩
theorem MOk.wb {ws : List ByteArray} {ms : List Mg} {A B C : List Sp} (h : MOk ws ms A B C) : ∀ (i : Nat) x, ws[i]? = some x → x.size ≤ 256 := fun i x hx => (h.words.size hx).2
theorem wordsF_snoc (ws : List ByteArray) (x : ByteArray) : wordsF (ws ++ [x]) = wordsF ws ++ (be4 x.size ++ x.data.toList) := by simp [wordsF]
theorem mgsF_snoc (ms : List Mg) (x : Mg) : mgsF (ms ++ [x]) = mgsF ms ++ mgF x := by simp [mgsF]
theorem wordsF_len (ws : List ByteArray) (h : ∀ (i : Nat) x, ws[i]? = some x → x.size ≤ 256) : (wordsF ws).length ≤ ws.length * 260 := by
  induction ws with
  | nil => simp [wordsF]
  | cons x ws ih =>
    have h0 := h 0 x rfl
    have := ih (fun i y hy => h (i + 1) y (by simpa using hy))
    have e : wordsF (x :: ws) = (be4 x.size ++ x.data.toList) ++ wordsF ws := by simp [wordsF]
    rw [e, List.length_append, List.length_append, show (be4 x.size).length = 4 from rfl, show x.data.toList.length = x.size from Array.length_toList, List.length_cons]
    omega
theorem mgsF_len (ms : List Mg) : (mgsF ms).length = ms.length * 12 := by
  induction ms with
  | nil => rfl
  | cons x ms ih =>
    have e : mgsF (x :: ms) = mgF x ++ mgsF ms := by simp [mgsF]
    rw [e, List.length_append, ih, show (mgF x).length = 12 from rfl, List.length_cons]
    omega
def spsF (l : List Sp) : List UInt8 := l.flatMap spF
theorem spsF_snoc (l : List Sp) (x : Sp) : spsF (l ++ [x]) = spsF l ++ spF x := by simp [spsF]
theorem spsF_len (l : List Sp) : (spsF l).length = l.length * 8 := by
  induction l with
  | nil => rfl
  | cons x l ih =>
    have e : spsF (x :: l) = spF x ++ spsF l := by simp [spsF]
    rw [e, List.length_append, ih, show (spF x).length = 8 from rfl, List.length_cons]
    omega
theorem spansF_len (l : List Sp) : (spansF l).length = 4 + l.length * 8 := by
  show (be4 l.length ++ spsF l).length = _
  rw [List.length_append, spsF_len]; rfl
end Go.Proofs.YtplmmamebfpcjaaGreatDoor
end
section
/- The mathematics of chapter 1's bursts: the register is linear in the bytes' bits, and loses nothing of 32 bits. -/
namespace Go.Proofs.YtplmmamebfpcjaaGreatDoor.Oc
set_option maxRecDepth 100000
/-- The bytes as one number, the first one lowest. -/
def numB : List UInt8 → Nat
  | [] => 0
  | c :: l => c.toNat ^^^ (numB l * 256)
theorem crcR_num (l : List UInt8) : ∀ r, crcR r l = hsN (8 * l.length) (r ^^^ numB l) := by
  induction l with
  | nil => intro r; simp [crcR, numB, hsN]
  | cons c l ih =>
    intro r
    have h1 : crcR r (c :: l) = crcR (hsN 8 (r ^^^ c.toNat)) l := rfl
    rw [h1, ih, numB, List.length_cons, show 8 * (l.length + 1) = 8 * l.length + 8 from by omega, hsN_add, ← Nat.xor_assoc, show numB l * 256 = numB l * 2 ^ 8 from rfl, hsN_xor 8 (r ^^^ c.toNat) (numB l * 2 ^ 8), hsN_shift]
theorem hs1_ne (x : Nat) (h : x < 4294967296) (h0 : x ≠ 0) : hs1 x ≠ 0 := by
  unfold hs1
  split
  · intro e
    have : x / 2 = 3988292384 := by
      have h1 : (x / 2 ^^^ 3988292384) ^^^ 3988292384 = 0 ^^^ 3988292384 := by rw [e]
      rw [Nat.xor_assoc, Nat.xor_self, Nat.xor_zero, Nat.zero_xor] at h1
      exact h1
    omega
  · omega
theorem hsN_ne (j x : Nat) (h : x < 4294967296) (h0 : x ≠ 0) : hsN j x ≠ 0 := by
  induction j with
  | zero => exact h0
  | succ j ih => exact hs1_ne _ (hsN_lt j x h) ih
theorem xor_cancel_left {a b c : Nat} (h : a ^^^ b = a ^^^ c) : b = c := by
  have : a ^^^ (a ^^^ b) = a ^^^ (a ^^^ c) := by rw [h]
  rwa [← Nat.xor_assoc, ← Nat.xor_assoc, Nat.xor_self, Nat.zero_xor, Nat.zero_xor] at this
/-- Bytes that differ by e, laid from bit 'at' on, within the text: the sums are alike just if e is nought. -/
theorem crc_burst (l c : List UInt8) (p e : Nat) (hl : c.length = l.length) (he : e < 4294967296) (hp : p ≤ 8 * l.length) (h : numB c = numB l ^^^ (e * 2 ^ p)) : crc l = crc c ↔ e = 0 := by
  have hc : crcR 4294967295 c = crcR 4294967295 l ^^^ hsN (8 * l.length - p) e := by
    rw [crcR_num, crcR_num, hl, h, ← Nat.xor_assoc, hsN_xor]
    congr 1
    rw [show 8 * l.length = (8 * l.length - p) + p from by omega, hsN_add, hsN_shift]
    congr 1; omega
  constructor
  · intro h0
    unfold crc at h0
    have h1 := xor_cancel_left h0
    rw [hc] at h1
    have h2 : crcR 4294967295 l ^^^ 0 = crcR 4294967295 l ^^^ hsN (8 * l.length - p) e := by rw [Nat.xor_zero]; exact h1
    have h3 := xor_cancel_left h2
    rcases Nat.eq_zero_or_pos e with h4 | h4
    · exact h4
    · exact absurd h3.symm (hsN_ne _ e he (by omega))
  · intro h0
    subst h0
    unfold crc
    rw [hc, hsN_zero, Nat.xor_zero]
/-- One bit turned. -/
theorem numB_flip (l : List UInt8) : ∀ (j q : Nat), j < l.length → q < 8 → numB (l.set j (UInt8.ofNat ((l.getD j 0).toNat ^^^ 2 ^ q))) = numB l ^^^ 2 ^ (8 * j + q) := by
  induction l with
  | nil => intro j q h; simp at h
  | cons c l ih =>
    intro j q h hq
    cases j with
    | zero =>
      have hb : c.toNat ^^^ 2 ^ q < 256 := Nat.xor_lt_two_pow (n := 8) c.toNat_lt (Nat.pow_lt_pow_right (by omega) hq)
      simp only [List.set_cons_zero, List.getD_cons_zero, numB, Nat.mul_zero, Nat.zero_add]
      rw [UInt8.toNat_ofNat', Nat.mod_eq_of_lt hb, Nat.xor_assoc, Nat.xor_comm (2 ^ q), ← Nat.xor_assoc]
    | succ j =>
      have hi := ih j q (by simpa using h) hq
      simp only [List.set_cons_succ, List.getD_cons_succ, numB]
      rw [hi, Nat.xor_assoc]
      congr 1
      have e : 2 ^ (8 * (j + 1) + q) = 2 ^ (8 * j + q) * 2 ^ 8 := by rw [← Nat.pow_add]; congr 1; omega
      rw [e, show (256 : Nat) = 2 ^ 8 from rfl, ← Nat.shiftLeft_eq, ← Nat.shiftLeft_eq, ← Nat.shiftLeft_eq, Nat.shiftLeft_xor_distrib]
/-- The burst's bits below k, one more. -/
theorem mod_bit (b k : Nat) : b % 2 ^ (k + 1) = b % 2 ^ k + 2 ^ k * (b / 2 ^ k % 2) := by
  rw [Nat.pow_succ, Nat.mod_mul]
theorem add_xor (x k : Nat) (h : x < 2 ^ k) : x + 2 ^ k = x ^^^ 2 ^ k := by
  have := split_xor (x + 2 ^ k) k
  have h1 : (x + 2 ^ k) / 2 ^ k = 1 := by
    rw [Nat.add_div_right _ (Nat.two_pow_pos k), Nat.div_eq_of_lt h]
  have h2 : (x + 2 ^ k) % 2 ^ k = x := by rw [Nat.add_mod_right, Nat.mod_eq_of_lt h]
  rw [h1, h2, Nat.one_mul, Nat.xor_comm] at this
  exact this
theorem burst_step (n b p k : Nat) (h : b / 2 ^ k % 2 = 1) : (n ^^^ (b % 2 ^ k * 2 ^ p)) ^^^ 2 ^ (p + k) = n ^^^ (b % 2 ^ (k + 1) * 2 ^ p) := by
  rw [mod_bit, h, Nat.mul_one, add_xor _ _ (Nat.mod_lt _ (Nat.two_pow_pos k)), Nat.xor_assoc]
  congr 1
  rw [← Nat.shiftLeft_eq (b % 2 ^ k ^^^ 2 ^ k), Nat.shiftLeft_xor_distrib, Nat.shiftLeft_eq, Nat.shiftLeft_eq, ← Nat.pow_add, Nat.add_comm k p]
theorem burst_skip (b k : Nat) (h : ¬ b / 2 ^ k % 2 = 1) : b % 2 ^ (k + 1) = b % 2 ^ k := by
  rw [mod_bit, show b / 2 ^ k % 2 = 0 from by omega, Nat.mul_zero, Nat.add_zero]
theorem burst_some (b k : Nat) (h : b / 2 ^ k % 2 = 1) : b % 2 ^ (k + 1) ≠ 0 := by
  rw [mod_bit, h]
  have := Nat.two_pow_pos k
  omega
end Go.Proofs.YtplmmamebfpcjaaGreatDoor.Oc
end
