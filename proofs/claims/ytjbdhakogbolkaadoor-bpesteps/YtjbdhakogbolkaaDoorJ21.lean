import Derived.Test.YtjbdhakogbolkaaDoorJ19
import Derived.Test.YtjbdhakogbolkaaDoorJ20
import Derived.Test.YtjbdhakogbolkaaDoorJ18
import Derived.Test.YtjbdhakogbolkaaDoorJ17
import Derived.Test.YtjbdhakogbolkaaDoorJ7
import Derived.Maps.Keyed
section
/- tesseraref10.Joined: its contract. -/
namespace Go.Proofs.YtjbdhakogbolkaaDoor
open Go.RowKit Go.Joins Go.Sort
set_option linter.unusedVariables false
set_option linter.unusedSimpArgs false
set_option maxRecDepth 100000
def encS (p : Nat × Nat) : List Value := [.int .i64 (p.1 : Nat), .int .i64 (p.2 : Nat)]
/-- A row of steps of one's own. -/
def RowS (w : World) (base : Nat) (v : Value) (st : List (Nat × Nat)) : Prop := w.ownsRow base 55 2 v st.length (st.flatMap encS)
theorem RowS.below {w w' : World} {base : Nat} {v : Value} {l : List (Nat × Nat)} (h : RowS w base v l) (hb : Below w.heap.size w w') : RowS w' base v l :=
  World.ownsRow.kept h ⟨hb.os, hb.tape, hb.output, hb.size, fun k hk _ => hb.block k hk⟩ (row := none) (by cases v.ownBlock <;> simp)
theorem infoS : (Tryd.prog.info? 55).map (fun i => (i.zero, i.size, i.bytes)) = some (some (.agg #[.int .i64 0, .int .i64 0]), 2, 16) := by kernel_rfl
theorem run_pushS (W : World) (base : Nat) (v : Value) (L : List (Nat × Nat)) (x : Nat × Nat) (b : Nat) (hown : RowS W base v L) (hx : W.heap[b]? = some (.cells #[.int .i64 (x.1 : Nat), .int .i64 (x.2 : Nat)] 55 (0, 0))) (hb : base ≤ W.heap.size) (hl : L.length + 1 ≤ 1099511627776) :
    ∃ v' w', (Builtin.append_ #[50, 50] 50 #[v, .slice (some ⟨b, 0, none⟩) 1 1]).run Tryd.prog W = .ok v' w' ∧ RowS w' base v' (L ++ [x]) ∧ W.grownBy w' v.ownBlock ∧ Moved v v' W.heap.size := by
  obtain ⟨i0, hi0, hz0, hz1, hz2⟩ := HQ.info_parts infoS
  exact run_own_g 50 55 i0 _ 2 16 encS (fun _ => rfl) (by omega) (fun x v hv => by unfold encS at hv; simp at hv; rcases hv with rfl | rfl <;> rfl) Tryd.underlying50 hi0 hz0 hz1 hz2 rfl W base v L x b 1 hown hx hb (by omega) (by omega)
/-- A row of ints in its block. -/
theorem RowN.inn {w : World} {base b n cap : Nat} {l : List Int} (h : RowN w base (.slice (some ⟨b, 0, none⟩) n cap) l) : n = l.length ∧ ∃ cur : Array Value, base ≤ b ∧ w.heap[b]? = some (.cells cur 3 (0, 0)) ∧ l.length ≤ cap ∧ cap ≤ maxLen ∧ cur.size = cap * 1 ∧ cur.toList.take (l.length * 1) = l.flatMap encN := by
  rcases h.2 with ⟨e, _⟩ | ⟨b', cap', cur, e, hb, hh, hn, hm, hcs, htk⟩
  · cases e
  · cases e
    exact ⟨rfl, cur, hb, hh, hn, hm, hcs, htk⟩
theorem RowN.set {w : World} {base b cap : Nat} {l : List Int} (h : RowN w base (.slice (some ⟨b, 0, none⟩) l.length cap) l) (a : Nat) (id : Int) : RowN (w.setCell ⟨b, a, none⟩ (.int .i64 id)) base (.slice (some ⟨b, 0, none⟩) (l.set a id).length cap) (l.set a id) := by
  have h1 := (World.ownsRow.stored h a (.int .i64 id)).1
  have hset : (l.flatMap encN).set a (.int .i64 id) = (l.set a id).flatMap encN := by rw [encN_flat, encN_flat, List.map_set]
  rw [hset] at h1
  unfold RowN
  rw [List.length_set]
  exact h1
/-- One of a row is cut out, in place. -/
theorem run_cutN (w : World) (base b cap : Nat) (m : List Int) (a : Nat) (hN : RowN w base (.slice (some ⟨b, 0, none⟩) m.length cap) m) (ha : a + 1 < m.length) (c2 : Nat) (x : Addr) (hx : x = ⟨b, a + 2, none⟩ ∨ m.length = a + 2) :
    ∃ w', (Builtin.append_ #[34, 34] 34 #[.slice (some ⟨b, 0, none⟩) (a + 1) cap, .slice (some x) (m.length - (a + 2)) c2]).run Tryd.prog w = .ok (.slice (some ⟨b, 0, none⟩) (m.length - 1) cap) w' ∧
      RowN w' base (.slice (some ⟨b, 0, none⟩) (m.length - 1) cap) (m.eraseIdx (a + 1)) ∧ w.grownBy w' (some b) := by
  obtain ⟨i0, hi0, hz0, hz1, hz2⟩ := HQ.info_parts infoN
  obtain ⟨-, cur, hb, hh, hn, hmx, hcs, htk⟩ := hN.inn
  have hpre : w.ownsRow base 3 1 (.slice (some ⟨b, 0, none⟩) (a + 1) cap) (a + 1) ((m.take (a + 1)).flatMap encN) := by
    refine ⟨by rw [encN_flat]; simp; omega, .inr ⟨b, cap, cur, rfl, hb, hh, by omega, hmx, hcs, ?_⟩⟩
    have : cur.toList.take ((a + 1) * 1) = (cur.toList.take (m.length * 1)).take ((a + 1) * 1) := by
      rw [List.take_take, Nat.min_eq_left (by omega)]
    rw [this, htk, encN_flat, encN_flat, Nat.mul_one, List.map_take]
  have hsrc : ∀ j u, ((m.drop (a + 2)).flatMap encN)[j]? = some u → w.cell? (x.add j) = some u := by
    intro j u hu
    rcases hx with rfl | hx
    case inr =>
      rw [List.drop_of_length_le (by omega)] at hu
      simp at hu
    have hj : (m.flatMap encN)[a + 2 + j]? = some u := by
      rw [encN_flat] at hu ⊢
      rw [List.map_drop, List.getElem?_drop] at hu
      exact hu
    have := World.ownsRow.cells hN (g := b) rfl (a + 2 + j) u hj
    rw [cell_add, Nat.zero_add] at this
    rw [cell_add]
    exact this
  obtain ⟨w', g1, g2, g3⟩ := run_append_fits (P := Tryd.prog) w base 34 34 3 i0 1 Tryd.underlying34 hi0 hz1 b (a + 1) cap _ hpre x (m.length - (a + 2)) c2 ((m.drop (a + 2)).flatMap encN) (by rw [encN_flat]; simp) hsrc (fun v hv => by
    rw [encN_flat] at hv
    obtain ⟨y, _, rfl⟩ := List.mem_map.1 hv
    rfl) (by omega)
  have he : a + 1 + (m.length - (a + 2)) = m.length - 1 := by omega
  rw [he] at g1 g2
  refine ⟨w', g1, ?_, g3⟩
  unfold RowN
  rw [List.length_eraseIdx_of_lt ha, List.eraseIdx_eq_take_drop_succ, List.flatMap_append]
  exact g2
theorem wrap12 {x : Int} (h0 : 0 ≤ x) (h : x + 2 ≤ 1099511627) : wrap64 (x + 1) = x + 1 ∧ wrap64 (x + 2) = x + 2 :=
  ⟨IntWalk.wrap64_in _ ⟨by omega, by omega⟩, IntWalk.wrap64_in _ ⟨by omega, by omega⟩⟩
def sliceLen (v : Value) : Nat := match v with | .slice _ n _ => n | _ => 0
set_option maxHeartbeats 4000000 in
theorem refJoined_any (aw am a b0 c : Option Addr) (nw cw cm na ca nb cb nc cc : Nat) (ms : List Mg) (la : Option Addr) (lc : Nat) (l : List Int) (w : World) (hl : ms.length ≤ 9223372036854775807) (hll : l.length ≤ 1099511627) (hM : MSP w am ms) (hi : CH.INS w la l) :
    Calls Tryd.prog 17 #[.agg #[.slice aw nw cw, .slice am ms.length cm, .slice a na ca, .slice b0 nb cb, .slice c nc cc], .slice la l.length lc] w fun e w' => ∃ v sv st r, e = .returned (.tuple #[v, sv]) ∧ RowN w' w.heap.size v r ∧ RowS w' w.heap.size sv st ∧ JR ms l st r ∧ Below w.heap.size w w' := by
  have hD := DBox.new w (.slice aw nw cw) (.slice am ms.length cm) (.slice a na ca) (.slice b0 nb cb) (.slice c nc cc)
  have hb0 := box_below w (.cells #[.slice aw nw cw, .slice am ms.length cm, .slice a na ca, .slice b0 nb cb, .slice c nc cc] 30)
  obtain ⟨w1, hw1⟩ : ∃ w1, w1 = w.alloc (.cells #[.slice aw nw cw, .slice am ms.length cm, .slice a na ca, .slice b0 nb cb, .slice c nc cc] 30) := ⟨_, rfl⟩
  rw [← hw1] at hD hb0
  have hs1 : w1.heap.size = w.heap.size + 1 := by rw [hw1]; simp
  obtain ⟨z, hz⟩ : ∃ z, z = w.heap.size := ⟨_, rfl⟩
  have HZ : Hid (z = w.heap.size) := hz
  rw [← hz] at hs1 hb0 hD ⊢
  obtain ⟨w2, hw2⟩ : ∃ w2, w2 = w1.alloc (.cells #[] 3) := ⟨_, rfl⟩
  have hb2 : Below w1.heap.size w1 w2 := by rw [hw2]; exact (Below.refl _ w1).alloc (Nat.le_refl _) _
  have hN2 : RowN w2 (z + 1) (.slice (some ⟨z + 1, 0, none⟩) 0 0) [] :=
    ⟨rfl, .inr ⟨z + 1, 0, #[], rfl, Nat.le_refl _, by rw [hw2, ← hs1]; exact heap_alloc_new w1 _, Nat.le_refl _, by simp [maxLen], rfl, rfl⟩⟩
  have hs2 : w2.heap.size = z + 2 := by rw [hw2]; simp; omega
  have hB2 := hb0.trans (hb2.mono (by omega))
  obtain ⟨v3, w3, hr3, hN3, hb3, hnb3⟩ := run_catN w2 (z + 1) _ [] la lc l hN2 (INS.below' (INS.below' hi (by rw [← hz]; exact hb0)) hb2) (by simp [Value.ownBlock]) (by omega) (by rw [List.length_nil]; omega)
  rw [List.nil_append] at hN3
  have hB3 := hB2.trans (hb3.mono (by omega))
  have x0 := hD.c0
  have x1 := hD.c1
  have x2 := hD.c2
  have x3 := hD.c3
  have x4 := hD.c4
  have hcells : ∀ j v, w1.cell? ⟨z, j, none⟩ = some v → w3.cell? ⟨z, j, none⟩ = some v := fun j v h =>
    (hb3.cell (p := ⟨z, j, none⟩) (by show z < z + 1; omega)).trans ((hb2.cell (p := ⟨z, j, none⟩) (by show z < w1.heap.size; omega)).trans h)
  have y0 := hcells _ _ x0
  have y1 := hcells _ _ x1
  have y2 := hcells _ _ x2
  have y3 := hcells _ _ x3
  have y4 := hcells _ _ x4
  have hs3 := hb3.size
  rw [hw2, hw1] at hr3
  obtain ⟨n, hnn⟩ : ∃ n, n = l.length := ⟨_, rfl⟩
  have HN : Hid (n = l.length) := hnn
  rw [← hnn] at hr3 hll ⊢
  rw [hz] at hr3
  clear hnn x0 x1 x2 x3 x4 hcells hb0 hb2 hb3 hN2 hD hB2 hw2
  go_enter Tryd.func17, Tryd.ntmps17
  clear hw1 hz
  go_wp2_with (at_builtin; refine wpList_append_run rfl (.tmp 11) (.tmp 12) 34 34 rfl _ _ rfl rfl _ w3 hr3 ?_; clear hr3)
  rw [← HZ.out]
  go_loopw [6, 7] (fun v6 v7 wr => ∃ (cur : List Int) (st : List (Nat × Nat)) (lv sv : Value), lv = v6 ∧ sv = v7 ∧ JS ms l st cur ∧ RowN wr (z + 1) lv cur ∧ lv.ownBlock ≠ none ∧ RowS wr (z + 1) sv st ∧ (sv.ownBlock = none ∨ sv.ownBlock ≠ lv.ownBlock) ∧ Below (z + 1) w3 wr) (fun v6 _ _ => sliceLen v6)
  case atStart => exact ⟨l, [], _, _, rfl, rfl, JS.nil, hN3, hnb3, World.ownsRow_nil _ _ _ _, .inl rfl, Below.refl _ _⟩
  case round =>
    obtain ⟨cur, st, lv, sv, hlv, hsv, hjs, hN, hnb, hS, hdj, hBr⟩ := hrel
    subst hlv
    subst hsv
    obtain ⟨b, cap, rfl⟩ : ∃ b cap, lv = .slice (some ⟨b, 0, none⟩) cur.length cap := by
      rcases ownsRow_forms hN with ⟨rfl, _⟩ | ⟨b, q, e⟩
      · exact absurd rfl hnb
      · exact ⟨b, q, e⟩
    have hcl := hjs.len
    obtain ⟨_, _, e0, hin⟩ := hN.ins
    cases e0
    have hzs := hBr.size
    have hBz : Below z w wr := hB3.trans (hBr.mono (by omega))
    have hBw : Below w.heap.size w wr := by rw [← HZ.out]; exact hBz
    have HNx := refNext_any aw am a b0 c nw cw cm na ca nb cb nc cc ms (some ⟨b, 0, none⟩) cap cur wr hl (by rw [← HN.out] at hcl; omega) (hM.below hBw) hin
    have u0 := (hBr.cell (p := ⟨z, 0, none⟩) (by show z < z + 1; omega)).trans y0
    have u1 := (hBr.cell (p := ⟨z, 1, none⟩) (by show z < z + 1; omega)).trans y1
    have u2 := (hBr.cell (p := ⟨z, 2, none⟩) (by show z < z + 1; omega)).trans y2
    have u3 := (hBr.cell (p := ⟨z, 3, none⟩) (by show z < z + 1; omega)).trans y3
    have u4 := (hBr.cell (p := ⟨z, 4, none⟩) (by show z < z + 1; omega)).trans y4
    have hM0 : Hid (MSP w am ms) := hM
    have hI0 : Hid (CH.INS w la l) := hi
    obtain ⟨q, hq⟩ : ∃ q, q = cur.length := ⟨_, rfl⟩
    have HQ0 : Hid (q = cur.length) := hq
    cases hnx : nxC ms cur cur.length with
    | none =>
      rw [hnx] at HNx
      have HNO : Hid (NoN ms cur) := nxC_none hnx
      rw [show nbF none = (-1, 0, 0) from rfl] at HNx
      rw [← hq] at HNx ⊢
      simp only [Option.isSome_none] at HNx
      clear hnx hq
      go_wp2_with fail
      refine HNx.mono ?_
      rintro e w5 ⟨rfl, hb5⟩
      clear HNx u0 u1 u2 u3 u4
      have hb6 : Below wr.heap.size wr (w5.alloc (.cells #[.int .i64 (-1), .int .i64 0] 55)) := hb5.alloc hb5.size _
      go_wp2_with fail
      refine bodyPost_ret (v := .tuple #[.slice (some ⟨b, 0, none⟩) q cap, sv]) (by simp [results, Tryd.results17, go_sem]) rfl ⟨_, sv, st, cur, rfl, ?_, ?_, hjs.fin HNO.out, hBz.trans (hb6.mono (by omega))⟩
      · have h1 := hN.below hb6
        rw [HQ0.out]
        exact ⟨h1.1, by
          rcases h1.2 with h0 | ⟨b', cap', cur', e, hb', rr⟩
          · exact .inl h0
          · exact .inr ⟨b', cap', cur', e, by omega, rr⟩⟩
      · have h1 := hS.below hb6
        exact ⟨h1.1, by
          rcases h1.2 with h0 | ⟨b', cap', cur', e, hb', rr⟩
          · exact .inl h0
          · exact .inr ⟨b', cap', cur', e, by omega, rr⟩⟩
    | some y =>
      obtain ⟨rk, p0, id⟩ := y
      rw [hnx] at HNx
      have hISN := nxC_some hnx
      have hplt := mpJ_lt hISN.1
      have HIS : Hid (IsN ms cur rk p0 id) := hISN
      rw [show nbF (some (rk, p0, id)) = ((rk : Int), (p0 : Int), id) from rfl] at HNx
      rw [← hq] at HNx hplt ⊢
      simp only [Option.isSome_some] at HNx
      clear hnx hISN hq
      go_wp2_with fail
      refine HNx.mono ?_
      rintro e w5 ⟨rfl, hb5⟩
      clear HNx u0 u1 u2 u3 u4
      obtain ⟨w6, hw6⟩ : ∃ w6, w6 = w5.alloc (.cells #[.int .i64 (rk : Nat), .int .i64 (p0 : Nat)] 55) := ⟨_, rfl⟩
      have hb6 : Below wr.heap.size wr w6 := by rw [hw6]; exact hb5.alloc hb5.size _
      have hp6 : w6.heap[w5.heap.size]? = some (.cells #[.int .i64 (rk : Nat), .int .i64 (p0 : Nat)] 55 (0, 0)) := by rw [hw6]; exact heap_alloc_new w5 _
      have hN6 := hN.below hb6
      have hbw := (World.ownsRow.lt hN b rfl)
      have hne5 : b ≠ w5.heap.size := by have := hb5.size; omega
      have hN7 := hN6.set p0 id
      have hp7 : (w6.setCell ⟨b, p0, none⟩ (.int .i64 id)).heap[w5.heap.size]? = _ := (Below.heap_setCell w6 ⟨b, p0, none⟩ _ _ (fun e => hne5 e.symm)).trans hp6
      obtain ⟨u, hu⟩ : ∃ u, cur[p0]? = some u := ⟨_, List.getElem?_eq_getElem (by rw [← HQ0.out]; omega)⟩
      have c0 : w6.cell? ⟨b, p0, none⟩ = some (.int .i64 u) := by
        have := World.ownsRow.cells hN6 (g := b) rfl p0 (.int .i64 u) (by rw [encN_flat, List.getElem?_map, hu]; rfl)
        rw [cell_add, Nat.zero_add] at this
        exact this
      have f0 : w6.frozen? ⟨b, p0, none⟩ = false := World.ownsRow.frozenAt hN6 p0
      have p1 := cell_of_block hp6 1
      simp only [List.getElem?_toArray, List.getElem?_cons_zero, List.getElem?_cons_succ] at p1
      have bi : 0 ≤ (p0 : Int) ∧ (p0 : Int) < (q : Int) := by omega
      rw [hw6] at c0 f0 p1
      clear hu
      go_upto_region 7 with fail
      rw [← hw6]
      have hg7 := (World.ownsRow.stored hN6 p0 (.int .i64 id)).2
      obtain ⟨w7, hw7⟩ : ∃ w7, w7 = w6.setCell ⟨b, p0, none⟩ (.int .i64 id) := ⟨_, rfl⟩
      rw [← hw7] at hN7 hp7 hg7 ⊢
      have p1' := cell_of_block hp7 1
      simp only [List.getElem?_toArray, List.getElem?_cons_zero, List.getElem?_cons_succ] at p1'
      have pr := cell_regrown p1'
      obtain ⟨-, cur6, hbb6, hh6, hcap6, hmx6, hcs6, htk6⟩ := hN6.inn
      have hcapq : q ≤ cap := by rw [HQ0.out]; exact hcap6
      have b1 : 0 ≤ (p0 : Int) + 1 ∧ (p0 : Int) + 1 ≤ (cap : Int) := by omega
      have b2 : 0 ≤ (p0 : Int) + 2 ∧ (p0 : Int) + 2 ≤ (q : Int) := by omega
      have hcm : cap ≤ 9223372036854775807 := by unfold maxLen at hmx6; omega
      have hq9 : q ≤ 1099511627 := by rw [HQ0.out]; rw [← HN.out] at hcl; omega
      have pq : (p0 : Int) + 2 ≤ 1099511627 := by omega
      have pz : (0 : Int) ≤ (p0 : Int) := by omega
      clear hw7 p1 p1' c0 f0 hw6 hh6 htk6 hcs6 hmx6 hcap6 hbb6 bi
      refine wp_region_quiet_tail (C := fun w' => ∃ p : Regrown, w' = grow (redrawn w7 p.d) p.os) 10 (by kernel_rfl) (by kernel_rfl) ⟨⟨_, #[]⟩, by rw [grow_empty]; rfl⟩ ?_
      simp only [List.take_succ_cons, List.take_zero, List.drop_succ_cons, List.drop_zero]
      repeat (go_big_quiet_step (fail))
      refine wpQuiet_nil ?_
      intro w8 hw'
      have hb8 : Below w7.heap.size w7 w8 := by
        obtain ⟨⟨dq, osq⟩, rfl⟩ := hw'
        exact below_regrown _ _ _
      clear hw' pr
      have hN8 := hN7.below hb8
      have hl8 : (cur.set p0 id).length = q := by rw [List.length_set, HQ0.out]
      obtain ⟨x, hx, hxx⟩ : ∃ x : Addr, some x = (if cap = p0 + 2 then some (⟨b, 0, none⟩ : Addr) else some ⟨b, p0 + 2, none⟩) ∧ (x = ⟨b, p0 + 2, none⟩ ∨ (cur.set p0 id).length = p0 + 2) := by
        by_cases h : cap = p0 + 2
        · exact ⟨⟨b, 0, none⟩, by rw [if_pos h], .inr (by rw [hl8]; omega)⟩
        · exact ⟨⟨b, p0 + 2, none⟩, by rw [if_neg h], .inl rfl⟩
      obtain ⟨w9, hr9, hN9, hg9⟩ := run_cutN w8 (z + 1) b cap (cur.set p0 id) p0 hN8 (by rw [hl8]; exact hplt) (cap - (p0 + 2)) x hxx
      rw [hl8, hx] at hr9
      rw [hl8] at hN9
      have hS6 := hS.below hb6
      have hS7 : RowS w7 (z + 1) sv st := World.ownsRow.kept hS6 hg7 hdj
      have hS8 := hS7.below hb8
      have hS9 : RowS w9 (z + 1) sv st := World.ownsRow.kept hS8 hg9 hdj
      have s6 := hb6.size
      have s7 := hg7.size
      have s8 := hb8.size
      have s9 := hg9.size
      have hB9 : Below (z + 1) w3 w9 := (((hBr.trans (hb6.mono (by omega))).grown hg7 (by omega) (fun k hk => by cases hk; exact hbw.1)).trans (hb8.mono (by omega))).grown hg9 (by omega) (fun k hk => by cases hk; exact hbw.1)
      have hp8 := (hb8.block w5.heap.size (Array.getElem?_eq_some_iff.1 hp7).1).trans hp7
      have hp9 := (hg9.block w5.heap.size (Array.getElem?_eq_some_iff.1 hp8).1 (fun e => hne5 (Option.some.inj e).symm)).trans hp8
      have k0 := cell_of_block hp9 0
      have k1 := cell_of_block hp9 1
      simp only [List.getElem?_toArray, List.getElem?_cons_zero, List.getElem?_cons_succ] at k0 k1
      obtain ⟨w10, hw10⟩ : ∃ w10, w10 = w9.alloc (.cells #[.int .i64 (rk : Nat), .int .i64 (p0 : Nat)] 55) := ⟨_, rfl⟩
      have hb10 : Below w9.heap.size w9 w10 := by rw [hw10]; exact (Below.refl _ w9).alloc (Nat.le_refl _) _
      have hx10 : w10.heap[w9.heap.size]? = some (.cells #[.int .i64 (rk : Nat), .int .i64 (p0 : Nat)] 55 (0, 0)) := by rw [hw10]; exact heap_alloc_new w9 _
      have s10 := hb10.size
      obtain ⟨sv', w11, hr11, hS11, hg11, hm11⟩ := run_pushS w10 (z + 1) sv st (rk, p0) w9.heap.size (hS9.below hb10) hx10 (by omega) (by rw [← HN.out] at hcl; omega)
      have hN10 := hN9.below hb10
      have hN11 : RowN w11 (z + 1) (.slice (some ⟨b, 0, none⟩) (q - 1) cap) ((cur.set p0 id).eraseIdx (p0 + 1)) := World.ownsRow.kept hN10 hg11 (.inr (by
        rcases hdj with h | h
        · rw [h]; exact fun e => by cases e
        · exact fun e => h e.symm))
      have hB11 : Below (z + 1) w3 w11 := (hB9.trans (hb10.mono (by omega))).grown hg11 (by omega) (fun k hk => (World.ownsRow.lt hS9 k hk).1)
      have hdj11 : sv'.ownBlock = none ∨ sv'.ownBlock ≠ some b := by
        cases ho : sv'.ownBlock with
        | none => exact .inl rfl
        | some k =>
          refine .inr fun e => ?_
          cases e
          rcases hm11 b ho with h | h
          · rcases hdj with h2 | h2
            · rw [h2] at h; cases h
            · exact h2 h
          · omega
      rw [hw10] at hr11
      have HJ : Hid (JS ms l st cur) := hjs
      have HN1 : Hid _ := hN11
      have HS1 : Hid _ := hS11
      have HB1 : Hid _ := hB11
      have HD1 : Hid _ := hdj11
      clear hin hN hS hdj hnb hBz hBw hBr hzs hb5 hb6 hN6 hne5 hg7 hN7 hp7 hp6 hcl hB3 hnb3 hN3 hjs hN8 hl8 hx hxx hN9 hg9 hS6 hS7 hS8 hS9 hB9 hp8 hp9 hw10 hb10 hx10 hS11 hg11 hm11 hN10 hN11 hB11 hdj11 hb8
      refine wpList_append_run rfl (.tmp 34) (.tmp 39) 34 34 rfl _ _ rfl rfl _ w9 hr9 ?_
      clear hr9
      go_wp2_with (at_builtin; refine wpList_append_run rfl (.tmp 41) (.tmp 43) 50 50 rfl _ _ rfl rfl _ w11 hr11 ?_; clear hr11)
      go_roundw
      case rel => exact ⟨repl cur p0 id, st ++ [(rk, p0)], _, _, rfl, rfl, HJ.out.snoc HIS.out, by
        have := HN1.out
        exact this, by simp [Value.ownBlock], HS1.out, HD1.out, HB1.out⟩
      case measure => simp only [sliceLen]; omega
end Go.Proofs.YtjbdhakogbolkaaDoor
end
section
/- tesseraref10.Bytes: its contract. -/
namespace Go.Proofs.YtjbdhakogbolkaaDoor
open Go.RowKit Go.Joins Go.Sort
set_option linter.unusedVariables false
set_option linter.unusedSimpArgs false
set_option maxRecDepth 100000
theorem byL_take (s : ByteArray) (k : Nat) (h : k < s.size) : (byL s).take (k + 1) = (byL s).take k ++ [((s[k]).toNat : Int)] := by
  rw [List.take_add_one]
  congr 1
  unfold byL
  rw [List.getElem?_map, Array.getElem?_toList]
  have : s.data[k]? = some s[k] := by
    rw [Array.getElem?_eq_getElem (by exact h)]
    rfl
  rw [this]
  rfl
theorem RowN.grown {A B : World} {z : Nat} {v : Value} {l : List Int} (h : RowN A z v l) (hg : A.grownBy B v.ownBlock) (hz : z ≤ A.heap.size) : Below z A B :=
  ⟨hg.os, hg.tape, hg.output, hg.size, fun k hk => hg.block k (by omega) (fun e => by
    rcases h.2 with ⟨rfl, _⟩ | ⟨b, cap, cur, rfl, hb, _⟩
    · cases e
    · have e2 : k = b := Option.some.inj e
      omega)⟩
set_option maxHeartbeats 1000000 in
theorem refBytes_any (s : ByteArray) (w : World) (hs : s.size ≤ 1048576) :
    Calls Tryd.prog 18 #[.string s] w fun e w' => ∃ v, e = .returned v ∧ RowN w' w.heap.size v (byL s) ∧ Below w.heap.size w w' := by
  obtain ⟨z, hz⟩ : ∃ z, z = w.heap.size := ⟨_, rfl⟩
  have HZ : Hid (z = w.heap.size) := hz
  go_enter Tryd.func18, Tryd.ntmps18
  go_wp2_with fail
  clear hz
  go_loopw [3, 4] (fun v3 v4 wr => ∃ (k : Nat) (lv : Value), k ≤ s.size ∧ v4 = .int .i64 (k : Nat) ∧ lv = v3 ∧ RowN wr z lv ((byL s).take k) ∧ Below z w wr) (fun _ v _ => s.size - (intOf v).toNat)
  case atStart => exact ⟨0, _, Nat.zero_le _, rfl, rfl, World.ownsRow_nil _ _ _ _, Below.refl _ _⟩
  case round =>
    obtain ⟨k, lv, hk, rfl, hlv, hN, hB⟩ := hrel
    subst hlv
    by_cases hlt : k < s.size
    · have d : decide ((k : Int) < (s.size : Int)) = true := decide_eq_true (by omega)
      have hi : 0 ≤ (k : Int) ∧ (k : Int) < (s.size : Int) := by omega
      have hwr : wrap64 ((s[k]).toNat : Int) = ((s[k]).toNat : Int) := by
        have := (s[k]).toNat_lt
        unfold wrap64
        omega
      have HBT : Hid ((byL s).take (k + 1) = (byL s).take k ++ [((s[k]).toNat : Int)]) := byL_take s k hlt
      have hb1 : Below wr.heap.size wr (wr.alloc (.cells #[.int .i64 ((s[k]).toNat : Int)] 3)) := (Below.refl _ wr).alloc (Nat.le_refl _) _
      have hzs := hB.size
      have hzw := HZ.out
      obtain ⟨v2, w2, hr2, hN2, hg2, -⟩ := run_pushN (wr.alloc (.cells #[.int .i64 ((s[k]).toNat : Int)] 3)) z lv _ ((s[k]).toNat : Int) wr.heap.size (hN.below hb1) (heap_alloc_new wr _) (by simp; omega) (by rw [List.length_take]; omega)
      have hbb : Below z w w2 := (hB.trans (hb1.mono (by omega))).trans ((hN.below hb1).grown hg2 (by simp; omega))
      clear hzs hzw
      go_wp2_with (at_builtin; refine wpList_append_run rfl (.tmp 11) (.tmp 16) 34 34 rfl _ _ rfl rfl _ w2 hr2 ?_; clear hr2)
      exact ⟨⟨k + 1, _, by omega, by simp, rfl, by rw [HBT.out]; exact hN2, hbb⟩, by simp only [intOf]; omega⟩
    · obtain rfl : k = s.size := by omega
      have d : decide ((s.size : Int) < (s.size : Int)) = false := decide_eq_false (by omega)
      have HT : Hid ((byL s).take s.size = byL s) := List.take_of_length_le (by rw [byL_length]; exact Nat.le_refl _)
      go_wp2_with fail
      go_ret
      rw [← HZ.out]
      rw [HT.out] at hN
      exact ⟨_, rfl, hN, hB⟩
end Go.Proofs.YtjbdhakogbolkaaDoor
end
section
/- BpeMerges: aids. -/
namespace Go.Proofs.YtjbdhakogbolkaaDoor
open Go.RowKit Go.Shelf Go.Lib
open Go.Joins Go.Sort
set_option linter.unusedVariables false
set_option linter.unusedSimpArgs false
theorem HL_two {P : Program} {md : Region.Mode} {ops : Array Oper} {Q : Exit → Act → World → Prop} {S : World → Prop} {n : Nat} {L : Array Bool → Act → World → Prop} {i j : Nat} {o o' : Oper} {f : Nat} {listed : Array Bool} {a : Act} {w : World} (hi : ops[i]? = some o) (hj : ops[j]? = some o') (hin : i < n) (hjn : j < n) (hr : Region.ready md ops listed = [i, j]) (hg : o.guard = none) (hg' : o'.guard = none)
    (h : o.wp P a w (fun a' w' => S w' ∧ HL P md ops Q S n L f (listed.setIfInBounds i true) a' w') Q) (h' : o'.wp P a w (fun a' w' => S w' ∧ HL P md ops Q S n L f (listed.setIfInBounds j true) a' w') Q) : HL P md ops Q S n L (f + 1) listed a w := by
  refine ⟨by rw [hr]; exact List.cons_ne_nil _ _, fun k hk => ?_⟩
  rw [hr] at hk
  have hk' : k = i ∨ k = j := by simpa using hk
  rcases hk' with rfl | rfl
  · refine ⟨hin, ?_⟩
    unfold wpOp
    simp only [hi, Region.wanted, hg, if_true]
    exact .inl h
  · refine ⟨hjn, ?_⟩
    unfold wpOp
    simp only [hj, Region.wanted, hg', if_true]
    exact .inl h'
/-- An end with a name. -/
def QN {ι : Type} (g : ι → Act) (R : ι → World → Prop) (e : Exit) (a' : Act) (W : World) : Prop := e = .normal ∧ ∃ i, a' = g i ∧ R i W
theorem QN.no {ι : Type} {g : ι → Act} {R : ι → World → Prop} {c : List PanicEntry} {a a' : Act} {W : World} (h : QN g R (.panic c) a' W) : QN g R (.panic c) a W := nomatch h.1
theorem wpIn_named {ι : Type} {F : Fence} {n : Nat} {P : Program} {c : Code} {K : Act → World → Prop} {Q : Exit → Act → World → Prop} {a : Act} {w : World} (f : Act → ι → Act) (R : ι → World → Prop) (h : c.wpIn F n P (QN (f a) R) a w) (hk : ∀ i W, R i W → K (f a i) W) : c.wpIn F n P (Exit.then K Q) a w :=
  wpIn_mono h (by
    rintro e a' W ⟨rfl, i, rfl, hr⟩
    exact hk i W hr)
theorem RowS.kept {w w' : World} {base : Nat} {v : Value} {l : List (Nat × Nat)} (h : RowS w base v l) (hb : ∀ k o, base ≤ k → w.heap[k]? = some o → (∃ cs, o = .cells cs 55 (0, 0)) → w'.heap[k]? = some o) : RowS w' base v l :=
  ⟨h.1, by
    rcases h.2 with h0 | ⟨b, cap, cur, e, hbb, hh, rr⟩
    · exact .inl h0
    · exact .inr ⟨b, cap, cur, e, hbb, hb b _ hbb hh ⟨_, rfl⟩, rr⟩⟩
theorem RowN.low {w : World} {base base' : Nat} {v : Value} {l : List Int} (h : RowN w base v l) (hb : base' ≤ base) : RowN w base' v l :=
  ⟨h.1, by
    rcases h.2 with h0 | ⟨b, cap, cur, e, hbb, rr⟩
    · exact .inl h0
    · exact .inr ⟨b, cap, cur, e, by omega, rr⟩⟩
theorem RowS.low {w : World} {base base' : Nat} {v : Value} {l : List (Nat × Nat)} (h : RowS w base v l) (hb : base' ≤ base) : RowS w base' v l :=
  ⟨h.1, by
    rcases h.2 with h0 | ⟨b, cap, cur, e, hbb, rr⟩
    · exact .inl h0
    · exact .inr ⟨b, cap, cur, e, by omega, rr⟩⟩
/-- What region 5 ends in. -/
def R5 (ms : List Mg) (s : ByteArray) (w1 : World) (i : Value × Value × Value × Nat) (W : World) : Prop :=
  ∃ l st, RowN W w1.heap.size i.2.1 l ∧ RowS W w1.heap.size i.2.2.1 st ∧ JR ms (byL s) st l ∧ Boxed W i.2.2.2 50 i.2.2.1 ∧ w1.heap.size ≤ i.2.2.2 ∧ Below w1.heap.size w1 W
theorem R5.store {ms : List Mg} {s : ByteArray} {w1 U : World} {vb v sv x : Value} {sb : Nat} {l : List Int} {st : List (Nat × Nat)} (h1 : RowN U w1.heap.size v l) (h2 : RowS U w1.heap.size sv st) (h3 : JR ms (byL s) st l) (h4 : Boxed U sb 50 x) (h5 : w1.heap.size ≤ sb) (h6 : Below w1.heap.size w1 U) : R5 ms s w1 (vb, v, sv, sb) (U.setCell ⟨sb, 0, none⟩ sv) := by
  refine ⟨l, st, h1.kept (fun k o _ ho ⟨cs, e⟩ => ?_), h2.kept (fun k o _ ho ⟨cs, e⟩ => ?_), h3, h4.set _, h5, h6.setCell (p := ⟨sb, 0, none⟩) h5 _⟩
  · refine (Below.heap_setCell U ⟨sb, 0, none⟩ sv k (fun hk => ?_)).trans ho
    have hk' : k = sb := hk
    subst hk'
    rw [show U.heap[k]? = _ from h4] at ho
    rw [← Option.some.inj ho] at e
    injection e with _ ht _
    exact absurd ht (by decide)
  · refine (Below.heap_setCell U ⟨sb, 0, none⟩ sv k (fun hk => ?_)).trans ho
    have hk' : k = sb := hk
    subst hk'
    rw [show U.heap[k]? = _ from h4] at ho
    rw [← Option.some.inj ho] at e
    injection e with _ ht _
    exact absurd ht (by decide)
/-- The step that comes next is the reference's. -/
theorem JS.next {ms : List Mg} {L : List Int} {pre : List (Nat × Nat)} {cur : List Int} (h : JS ms L pre cur) {x : Nat × Nat} {i : Int} (hn : IsN ms cur x.1 x.2 i) {st : List (Nat × Nat)} {l : List Int} (hr : JR ms L st l) : st[pre.length]? = some x ∧ pre.length < st.length := by
  obtain ⟨st', r, h1⟩ := JR.ex' ms cur
  have h2 := h.on h1
  obtain ⟨rfl, rfl⟩ := hr.uniq h2
  cases h1 with
  | done hno => exact absurd hno hn.noN
  | step h3 h4 =>
    obtain ⟨e1, e2, _⟩ := h3.uniq hn
    subst e1 e2
    simp
theorem encS_flat : ∀ (st : List (Nat × Nat)) (i : Nat) (x : Nat × Nat), st[i]? = some x → (st.flatMap encS)[i * 2]? = some (.int .i64 (x.1 : Nat)) ∧ (st.flatMap encS)[i * 2 + 1]? = some (.int .i64 (x.2 : Nat))
  | [], i, x, h => by simp at h
  | y :: st, 0, x, h => by
    simp only [List.getElem?_cons_zero, Option.some.injEq] at h
    subst h
    exact ⟨rfl, rfl⟩
  | y :: st, i + 1, x, h => by
    simp only [List.getElem?_cons_succ] at h
    have := encS_flat st i x h
    rw [List.flatMap_cons, show (i + 1) * 2 = i * 2 + 2 from by omega]
    exact this
theorem RowS.at' {w : World} {base : Nat} {v : Value} {st : List (Nat × Nat)} (h : RowS w base v st) {i : Nat} {x : Nat × Nat} (hx : st[i]? = some x) : ∃ rb cap, v = .slice (some ⟨rb, 0, none⟩) st.length cap ∧ base ≤ rb ∧ w.cell? ⟨rb, i * 2, none⟩ = some (.int .i64 (x.1 : Nat)) ∧ w.cell? ⟨rb, i * 2 + 1, none⟩ = some (.int .i64 (x.2 : Nat)) := by
  have hi := (List.getElem?_eq_some_iff.1 hx).1
  rcases h.2 with ⟨rfl, h0⟩ | ⟨b, cap, cur, rfl, hb, hh, hn, hm, hcs, htk⟩
  · exfalso
    have h1 := h.1
    simp_all
  · obtain ⟨h1, h2⟩ := encS_flat st i x hx
    have g : ∀ j y, (st.flatMap encS)[j]? = some y → w.cell? ⟨b, j, none⟩ = some y := fun j y hj => by
      rw [cell_of_block hh]
      rw [← htk, List.getElem?_take] at hj
      split at hj
      · rw [← Array.getElem?_toList]; exact hj
      · cases hj
    exact ⟨b, cap, rfl, hb, g _ _ h1, g _ _ h2⟩
/-- What a turn of BpeMerges begins with. -/
structure MT (w0 wM W : World) (z sb Bm g k0 T : Nat) (sv : Value) (st : List (Nat × Nat)) (s : ByteArray) (t : Int) (Ds : List Nat) : Prop where
  res : Boxed W (z + 1 + 1) 4 (.bool false)
  stop : Boxed W (z + 1) 3 (.int .i64 (k0 : Nat))
  steps : Boxed W sb 50 sv
  row : RowS W (z + 3) sv st
  bm : Boxed W Bm 31 (.pointer (some ⟨g, 0, none⟩))
  bs : Boxed W (Bm + 1) 9 (.string s)
  turn : Boxed W T 3 (.int .i64 t)
  low : z = w0.heap.size ∧ z + 3 ≤ wM.heap.size ∧ wM.heap.size ≤ T
  bel : Below w0.heap.size w0 W
  belM : Below wM.heap.size wM W
  mks : ∀ D ∈ Ds, w0.heap.size ≤ D ∧ W.heap[D]? = some (.deferred (some []))
theorem MT.below {w0 wM W W' : World} {z sb Bm g k0 T : Nat} {sv : Value} {st : List (Nat × Nat)} {s : ByteArray} {t : Int} {Ds : List Nat} (h : MT w0 wM W z sb Bm g k0 T sv st s t Ds) (hb : Below W.heap.size W W') : MT w0 wM W' z sb Bm g k0 T sv st s t Ds :=
  ⟨boxed_below_s h.res hb, boxed_below_s h.stop hb, boxed_below_s h.steps hb, h.row.below hb, boxed_below_s h.bm hb, boxed_below_s h.bs hb, boxed_below_s h.turn hb, h.low, h.bel.trans (hb.mono h.bel.size), h.belM.trans (hb.mono h.belM.size),
    fun D hD => ⟨(h.mks D hD).1, (hb.block D (Array.getElem?_eq_some_iff.1 (h.mks D hD).2).1).trans (h.mks D hD).2⟩⟩
theorem MT.next {w0 wM W : World} {z sb Bm g k0 T : Nat} {sv : Value} {st : List (Nat × Nat)} {s : ByteArray} {t : Int} {Ds : List Nat} (h : MT w0 wM W z sb Bm g k0 T sv st s t Ds) {D : Nat} (hD : w0.heap.size ≤ D) (hk : W.heap[D]? = some (.deferred (some []))) (u : Int) :
    MT w0 wM (W.alloc (.cells #[.int .i64 u] 3)) z sb Bm g k0 W.heap.size sv st s u (D :: Ds) := by
  have hb : Below W.heap.size W (W.alloc (.cells #[.int .i64 u] 3)) := (Below.refl _ W).alloc (Nat.le_refl _) _
  have h2 := h.below hb
  refine ⟨h2.res, h2.stop, h2.steps, h2.row, h2.bm, h2.bs, Boxed.new W 3 _, ⟨h.low.1, h.low.2.1, h.belM.size⟩, h2.bel, h2.belM, fun D' hD' => ?_⟩
  rcases List.mem_cons.1 hD' with rfl | hD'
  · exact ⟨hD, (hb.block D' (Array.getElem?_eq_some_iff.1 hk).1).trans hk⟩
  · exact h2.mks D' hD'
def Mks (w0 : World) (Ds : List Nat) (W : World) : Prop := ∀ E ∈ Ds, w0.heap.size ≤ E ∧ W.heap[E]? = some (.deferred (some []))
theorem mono_named {F : Fence} {n : Nat} {P : Program} {c : Code} {Q : Exit → Act → World → Prop} {a : Act} {w : World} (R : Nat → Exit → World → Prop)
    (h : c.wpIn F n P (fun e a' W => ∃ D, a' = { a with defers := { target := .collected D, args := #[] } :: a.defers } ∧ R D e W) a w)
    (hq : ∀ D e W, R D e W → Q e { a with defers := { target := .collected D, args := #[] } :: a.defers } W) : c.wpIn F n P Q a w :=
  wpIn_mono h (by rintro e a' W ⟨D, rfl, hr⟩; exact hq D e W hr)
def actM (a : Act) (x : Nat × Nat) (b : Nat) : Act := { tmps := (a.tmps.setIfInBounds 67 (valS x)).setIfInBounds 17 (.pointer (some ⟨b, 0, none⟩)), defers := [] }
def sO (x : Nat × Nat) : Obj := .cells #[.int .i64 (x.1 : Nat), .int .i64 (x.2 : Nat)] 45
theorem KpS.setBox {M0 B0 : Nat} {U : World} {b : Nat} {v : Value} (h : Boxed U b 3 v) (hM : M0 ≤ b) (hB : b < B0) (x : Value) : KpS M0 B0 U (U.setCell ⟨b, 0, none⟩ x) :=
  ⟨rfl, rfl, rfl, by simp, fun k hk => Below.heap_setCell U ⟨b, 0, none⟩ x k (fun e => by have e' : k = b := e; omega), fun k o ho _ hk => (Below.heap_setCell U ⟨b, 0, none⟩ x k (fun e => by
    have e' : k = b := e
    subst e'
    rcases ho with ho | ⟨cs, fr, ho⟩
    · omega
    · rw [show U.heap[k]? = _ from h] at hk
      rw [← Option.some.inj hk] at ho
      injection ho with _ ht _
      exact absurd ht (by decide))).trans hk⟩
theorem RowS.shape {w : World} {base : Nat} {v : Value} {st : List (Nat × Nat)} (h : RowS w base v st) : ∃ a c, v = .slice a st.length c := by
  rcases h.2 with ⟨rfl, h0⟩ | ⟨b, cap, cur, rfl, _⟩
  · exact ⟨none, 0, by rw [h0]⟩
  · exact ⟨_, _, rfl⟩
theorem grown_b {W U U' : World} {row : Option Nat} {B : Nat} (h : Below B W U) (hg : U.grownBy U' row) (hB : B ≤ U.heap.size) (hr : ∀ r, row = some r → B ≤ r) : Below B W U' :=
  h.trans ⟨hg.os, hg.tape, hg.output, hg.size, fun k hk => hg.block k (by omega) (fun e => by have := hr k e.symm; omega)⟩
theorem grown_box {U U' : World} {row : Option Nat} {b : Nat} {t : TypeId} {v : Value} (h : Boxed U b t v) (hg : U.grownBy U' row) (hr : ∀ r, row = some r → b < r) : Boxed U' b t v :=
  (hg.block b h.lt (fun e => by have := hr b e.symm; omega)).trans h
end Go.Proofs.YtjbdhakogbolkaaDoor
end
section
/- ModelAll: the walk. -/
namespace Go.Proofs.YtjbdhakogbolkaaDoor
open Go.RowKit Go.Sort Go.Joins Go.Maps Go.WideMaps
set_option linter.unusedVariables false
theorem badM_zero {ws : List ByteArray} {ms : List Mg} {i : Nat} {x : Mg} (hx : ms[i]? = some x) (h : badM ws ms i = 0) : cutM ws ms i = 0 ∧ (ms.take i).any (fun y => pairB y x.l x.r) = false := by
  unfold badM at h
  by_cases h0 : cutM ws ms i ≠ 0
  · rw [if_pos h0] at h; exact absurd h h0
  · rw [if_neg h0, hx] at h
    simp only at h
    refine ⟨by simpa using h0, ?_⟩
    cases hq : (ms.take i).any (fun y => pairB y x.l x.r) with
    | false => rfl
    | true => rw [if_pos hq] at h; cases h
theorem MOk.cut {ws : List ByteArray} {ms : List Mg} {A B C : List Sp} (h : MOk ws ms A B C) {i : Nat} {x : Mg} (hx : ms[i]? = some x) :
    256 ≤ x.i ∧ x.i - 256 < ws.length ∧ madeM ms i x.i = false ∧ madeM ms i x.l = true ∧ madeM ms i x.r = true ∧ wordM ws x.i = some (joinM ws x.l x.r) :=
  cutM_zero hx (badM_zero hx (h.cuts i (List.getElem?_eq_some_iff.1 hx).1)).1
theorem MOk.merge {ws : List ByteArray} {ms : List Mg} {A B C : List Sp} (h : MOk ws ms A B C) {i : Nat} {x : Mg} (hx : ms[i]? = some x) : mergeM ms x.l x.r = some (i, x.i) := by
  have h1 := (badM_zero hx (h.cuts i (List.getElem?_eq_some_iff.1 hx).1)).2
  unfold mergeM
  rw [rankM_some hx (by simp [pairB]) fun j y hj hy => ?_]
  · simp [hx]
  · cases hp : pairB y x.l x.r with
    | false => rfl
    | true =>
      have := any_take_hit (p := fun y => pairB y x.l x.r) hy hj hp
      rw [h1] at this
      cases this
/-- What is made has a word. -/
theorem MOk.made_word {ws : List ByteArray} {ms : List Mg} {A B C : List Sp} (h : MOk ws ms A B C) {i : Nat} {id : Int} (hm : madeM ms i id = true) : ∃ s, wordM ws id = some s := by
  unfold madeM at hm
  simp only [Bool.or_eq_true, Bool.and_eq_true, decide_eq_true_eq] at hm
  rcases hm with ⟨h1, h2⟩ | ⟨h1, h2⟩
  · exact ⟨byteS id, by unfold wordM; rw [if_pos ⟨h1, h2⟩]⟩
  · obtain ⟨y, hy, hyi⟩ := List.any_eq_true.1 h2
    obtain ⟨j, hj⟩ := List.mem_iff_getElem?.1 hy
    have hji : j < i := by
      have := (List.getElem?_eq_some_iff.1 hj).1
      simp at this; omega
    rw [List.getElem?_take_of_lt hji] at hj
    obtain ⟨a1, a2, -⟩ := h.cut hj
    have hid : y.i = id := by simpa using hyi
    rw [wordM_in h1]
    exact ⟨_, List.getElem?_eq_getElem (by omega)⟩
/-- What the map of ids holds behind k merges: one more than the rank. -/
def seenF (ms : List Mg) : Nat → Int → Option Int
  | 0 => fun _ => none
  | k + 1 => fun z => if (ms[k]?).map (·.i) = some z then some ((k : Int) + 1) else seenF ms k z
theorem seenF_none {ms : List Mg} {k : Nat} {z : Int} (h : (ms.take k).any (fun y => y.i == z) = false) : seenF ms k z = none := by
  induction k with
  | zero => rfl
  | succ k ih =>
    have h1 : (ms.take k).any (fun y => y.i == z) = false := by
      rw [List.take_add_one, List.any_append] at h
      simp only [Bool.or_eq_false_iff] at h
      exact h.1
    show (if _ then _ else _) = none
    rw [if_neg, ih h1]
    intro hq
    obtain ⟨x, hx, hxz⟩ := Option.map_eq_some_iff.1 hq
    have := any_take_hit (p := fun y => y.i == z) hx (Nat.lt_succ_self k) (by simpa using hxz)
    rw [h] at this
    cases this
theorem seenF_some {ms : List Mg} {k : Nat} {z : Int} (h : (ms.take k).any (fun y => y.i == z) = true) : ∃ p, seenF ms k z = some p ∧ 1 ≤ p := by
  induction k with
  | zero => simp at h
  | succ k ih =>
    simp only [seenF]
    by_cases hq : (ms[k]?).map (·.i) = some z
    · rw [if_pos hq]; exact ⟨_, rfl, by omega⟩
    · rw [if_neg hq]
      refine ih ?_
      rw [List.take_add_one, List.any_append] at h
      simp only [Bool.or_eq_true] at h
      rcases h with h | h
      · exact h
      · exfalso
        apply hq
        cases hk : ms[k]? with
        | none => rw [hk] at h; simp at h
        | some x => rw [hk] at h; simp at h; simp [h]
theorem seenF_step {ms : List Mg} {k : Nat} {x : Mg} (hx : ms[k]? = some x) : seenF ms (k + 1) = fun z => if z = x.i then some ((k : Int) + 1) else seenF ms k z := by
  funext z
  show (if _ then _ else _) = _
  rw [hx]
  by_cases h : z = x.i
  · rw [if_pos (by simp [h]), if_pos h]
  · rw [if_neg (by simpa using fun e => h e.symm), if_neg h]
theorem lawI : Keyed Tryd.prog 3 := int_keyed Tryd.underlying3
theorem intV_inj (x y : Int) (h : Value.int .i64 x = Value.int .i64 y) : x = y := by cases h; rfl
theorem keyI {n : Int} (h : W64 n) : keyOf Tryd.prog 3 (.int .i64 n) = some (.int .i64 n) := keyOf_int_mk Tryd.underlying3 (WalkArith.wf_i64 h)
end Go.Proofs.YtjbdhakogbolkaaDoor
end
section
/- BpeSteps: ranks rise or stay. -/
namespace Go.Proofs.YtjbdhakogbolkaaDoor
set_option linter.unusedVariables false
theorem repl_get (l : List Int) (a : Nat) (i : Int) (ha : a + 1 < l.length) (j : Nat) : (repl l a i)[j]? = if j < a then l[j]? else if j = a then some i else l[j + 1]? := by
  unfold repl
  rw [List.getElem?_eraseIdx]
  by_cases h1 : j < a
  · rw [if_pos (by omega), if_pos h1, List.getElem?_set_ne (by omega)]
  · rw [if_neg h1]
    by_cases h2 : j = a
    · subst h2
      rw [if_pos (by omega), if_pos rfl, List.getElem?_set_self (by omega)]
    · rw [if_neg (by omega), if_neg h2, List.getElem?_set_ne (by omega)]
theorem made_later {ws : List ByteArray} {ms : List Mg} {A B C : List Sp} (hk : MOk ws ms A B C) {k k' : Nat} {x y : Mg} (hx : ms[k]? = some x) (hy : ms[k']? = some y) (h : y.l = x.i ∨ y.r = x.i) : k < k' := by
  obtain ⟨h1, h2, h3, h4, h5, h6⟩ := hk.cut hx
  obtain ⟨g1, g2, g3, g4, g5, g6⟩ := hk.cut hy
  have hm : madeM ms k' x.i = true := by
    rcases h with h | h
    · rw [← h]; exact g4
    · rw [← h]; exact g5
  unfold madeM at hm
  simp only [Bool.or_eq_true, Bool.and_eq_true, decide_eq_true_eq] at hm
  rcases hm with ⟨_, hm⟩ | ⟨_, hm⟩
  · omega
  · obtain ⟨z, hz, hzi⟩ := List.any_eq_true.1 hm
    obtain ⟨j, hj⟩ := List.mem_iff_getElem?.1 hz
    have hjk : j < k' := by
      have := (List.getElem?_eq_some_iff.1 hj).1
      simp at this; omega
    rw [List.getElem?_take_of_lt hjk] at hj
    by_cases hlt : k < k'
    · exact hlt
    · exfalso
      have : madeM ms k x.i = true := by
        unfold madeM
        simp only [Bool.or_eq_true, Bool.and_eq_true, decide_eq_true_eq]
        refine .inr ⟨h1, List.any_eq_true.2 ⟨z, ?_, hzi⟩⟩
        exact List.mem_iff_getElem?.2 ⟨j, by rw [List.getElem?_take_of_lt (by omega)]; exact hj⟩
      rw [h3] at this
      cases this
theorem mpJ_of {ms : List Mg} {l : List Int} {j : Nat} {u v : Int} (hu : l[j]? = some u) (hv : l[j + 1]? = some v) : mpJ ms l j = mergeM ms u v := by
  unfold mpJ
  rw [hu, hv]
  rfl
theorem rise {ws : List ByteArray} {ms : List Mg} {A B C : List Sp} (hk : MOk ws ms A B C) {cur : List Int} {k a : Nat} {i : Int} (h : IsN ms cur k a i) {j k' : Nat} {i' : Int} (hj : mpJ ms (repl cur a i) j = some (k', i')) : k ≤ k' := by
  have ha := mpJ_lt h.1
  obtain ⟨u, v, hu, hv, hm⟩ := isN_parts hj
  obtain ⟨x, hx, -, -, e3⟩ := mergeM_get (isN_parts h.1).choose_spec.choose_spec.2.2
  obtain ⟨y, hy, f1, f2, -⟩ := mergeM_get hm
  rw [repl_get cur a i ha] at hu hv
  by_cases h1 : j < a
  · rw [if_pos h1] at hu
    by_cases h2 : j + 1 < a
    · rw [if_pos h2] at hv
      rcases h.2 j k' i' (by rw [mpJ_of hu hv]; exact hm) with h3 | ⟨h3, _⟩ <;> omega
    · rw [if_neg h2, if_pos (by omega)] at hv
      have := made_later hk hx hy (.inr (by rw [f2, e3]; exact (Option.some.inj hv).symm))
      omega
  · rw [if_neg h1] at hu
    by_cases h2 : j = a
    · rw [if_pos h2] at hu
      have := made_later hk hx hy (.inl (by rw [f1, e3]; exact (Option.some.inj hu).symm))
      omega
    · rw [if_neg h2] at hu
      rw [if_neg (by omega), if_neg (by omega)] at hv
      rcases h.2 (j + 1) k' i' (by rw [mpJ_of hu hv]; exact hm) with h3 | ⟨h3, _⟩ <;> omega
/-- The last step's rank. -/
def lastR (pre : List (Nat × Nat)) : Nat := (pre.getLast?.map (·.1)).getD 0
theorem lastR_snoc (pre : List (Nat × Nat)) (x : Nat × Nat) : lastR (pre ++ [x]) = x.1 := by
  unfold lastR
  rw [List.getLast?_concat]
  rfl
theorem lastR_le {ws : List ByteArray} {ms : List Mg} {A B C : List Sp} (hk : MOk ws ms A B C) {L : List Int} {pre : List (Nat × Nat)} {cur : List Int} (h : JS ms L pre cur) {j k' : Nat} {i' : Int} (hj : mpJ ms cur j = some (k', i')) : lastR pre ≤ k' := by
  cases h with
  | nil => exact Nat.zero_le _
  | snoc g hn =>
    rw [lastR_snoc]
    exact rise hk hn hj
theorem JS.inv {ms : List Mg} {L : List Int} {pre : List (Nat × Nat)} {cur : List Int} (h : JS ms L pre cur) : (pre = [] ∧ cur = L) ∨ ∃ st l' k a i, pre = st ++ [(k, a)] ∧ JS ms L st l' ∧ IsN ms l' k a i ∧ cur = repl l' a i := by
  cases h with
  | nil => exact .inl ⟨rfl, rfl⟩
  | snoc g hn => exact .inr ⟨_, _, _, _, _, rfl, g, hn, rfl⟩
theorem JS.det {ms : List Mg} {L : List Int} : ∀ (n : Nat) (pre : List (Nat × Nat)), pre.length = n → ∀ c c', JS ms L pre c → JS ms L pre c' → c = c'
  | 0, pre, hn, c, c', h, h' => by
    rcases h.inv with ⟨_, rfl⟩ | ⟨st, l', k, a, i, rfl, _⟩
    · rcases h'.inv with ⟨_, rfl⟩ | ⟨st, l', k, a, i, rfl, _⟩
      · rfl
      · simp at hn
    · simp at hn
  | n + 1, pre, hn, c, c', h, h' => by
    rcases h.inv with ⟨rfl, rfl⟩ | ⟨st, l', k, a, i, rfl, g, hi, rfl⟩
    · simp at hn
    · rcases h'.inv with ⟨h0, _⟩ | ⟨st2, l2, k2, a2, i2, he, g2, hi2, rfl⟩
      · simp at h0
      · have e1 := congrArg List.dropLast he
        have e2 := congrArg List.getLast? he
        simp at e1 e2
        subst e1
        obtain ⟨rfl, rfl⟩ := e2
        have := JS.det n st (by simpa using hn) l' l2 g g2
        subst this
        obtain ⟨_, _, rfl⟩ := hi.uniq hi2
        rfl
theorem JS.endJ {ms : List Mg} {L : List Int} {pre : List (Nat × Nat)} {cur l : List Int} (h : JS ms L pre cur) (hr : JR ms L pre l) : cur = l := by
  obtain ⟨st', r, h1⟩ := JR.ex' ms cur
  obtain ⟨e1, e2⟩ := hr.uniq (h.on h1)
  have : st' = [] := by
    have := congrArg List.length e1
    simp at this
    exact this
  subst this
  cases h1 with
  | done _ => exact e2.symm
theorem JS.w64 {ms : List Mg} (hMI : ∀ l r k i, mergeM ms l r = some (k, i) → W64 i) {L : List Int} (hL : ∀ x ∈ L, W64 x) {pre : List (Nat × Nat)} {cur : List Int} (h : JS ms L pre cur) : ∀ x ∈ cur, W64 x := by
  induction h with
  | nil => exact hL
  | snoc g hn ih =>
    intro x hx
    obtain ⟨j, hj⟩ := List.mem_iff_getElem?.1 hx
    rw [repl_get _ _ _ (mpJ_lt hn.1)] at hj
    split at hj
    · exact ih x (List.mem_iff_getElem?.2 ⟨_, hj⟩)
    · split at hj
      · obtain ⟨u, v, _, _, hm⟩ := isN_parts hn.1
        rw [← Option.some.inj hj]
        exact hMI _ _ _ _ hm
      · exact ih x (List.mem_iff_getElem?.2 ⟨_, hj⟩)
theorem byL_w64 (s : ByteArray) : ∀ x ∈ byL s, W64 x := fun x hx => by
  unfold byL at hx
  obtain ⟨c, _, rfl⟩ := List.mem_map.1 hx
  have := c.toNat_lt
  unfold W64
  omega
end Go.Proofs.YtjbdhakogbolkaaDoor
end
section
/- BpeSteps: rows laid one behind the other in fresh memory. -/
namespace Go.Proofs.YtjbdhakogbolkaaDoor
open Go.RowKit Go.Shelf Go.Lib
open Go.Joins Go.Sort
set_option linter.unusedVariables false
set_option linter.unusedSimpArgs false
/-- All of a slice is laid behind a row of one's own: what turns. -/
theorem run_catG (W : World) (base : Nat) (v : Value) (L : List Int) (a : Option Addr) (c m : Nat) (M : List Int) (hm0 : m = M.length) (hown : RowN W base v L) (hi : CH.INS W a M) (hv : v.ownBlock ≠ none) (hb : base ≤ W.heap.size) (hl : L.length + M.length ≤ 1099511627776) :
    ∃ v' w', (Builtin.append_ #[34, 34] 34 #[v, .slice a m c]).run Tryd.prog W = .ok v' w' ∧ RowN w' base v' (L ++ M) ∧ W.grownBy w' v.ownBlock ∧ v'.ownBlock ≠ none := by
  subst hm0
  obtain ⟨i0, hi0, hz0, hz1, hz2⟩ := HQ.info_parts infoN
  cases a with
  | none =>
    have hM : M = [] := by
      rcases hi with h | ⟨b, off, h, _⟩
      · exact h
      · cases h
    subst hM
    rcases hown.2 with ⟨rfl, _⟩ | ⟨b, cap, cur, rfl, hbb, hh, hn, hm, hcs, htk⟩
    · exact absurd rfl hv
    · refine ⟨.slice (some ⟨b, 0, none⟩) L.length cap, W, ?_, by rw [List.append_nil]; exact hown, World.grownBy.refl _ _, hv⟩
      have hcap : ¬ cap < L.length := by omega
      simp [Builtin.append_, run_underlying Tryd.underlying34, sizeOf, typeInfo, hi0, Builtin.lenOf, Builtin.firstCells, loadCells, loadCellsFrom, hz1, storeCells]
      intro h
      exact absurd h hcap
  | some x =>
    have hcs : ∀ j u, (M.flatMap encN)[j]? = some u → W.cell? (x.add j) = some u := by
      intro j u hu
      rw [encN_flat, List.getElem?_map] at hu
      cases hl : M[j]? with
      | none => rw [hl] at hu; cases hu
      | some y =>
        rw [hl] at hu
        simp only [Option.map_some, Option.some.injEq] at hu
        rcases hi with h | ⟨b, off, h, hc⟩
        · rw [h] at hl; simp at hl
        · cases h
          have := hc j y hl
          rw [cell_add, ← hu]
          exact this
    obtain ⟨v', w', h1, h2, h3, h4⟩ := run_append_own (P := Tryd.prog) W base 34 34 3 i0 _ 1 8 Tryd.underlying34 hi0 hz0 hz1 hz2 rfl (by decide) v L.length (L.flatMap encN) hown x M.length c (M.flatMap encN) (by rw [encN_flat]; simp) hcs (fun v hv => by
      rw [encN_flat] at hv
      obtain ⟨y, _, rfl⟩ := List.mem_map.1 hv
      rfl) (by unfold maxLen; omega) (by omega) hb
    refine ⟨v', w', h1, ?_, h3, ?_⟩
    · unfold RowN
      rw [List.length_append, List.flatMap_append]
      exact h2
    · intro e
      rcases h2.2 with ⟨e2, _⟩ | ⟨b, cap, cur, e2, _⟩
      · have := (h4.1 e2).1
        rw [this] at hv
        exact hv rfl
      · rw [e2] at e; cases e
/-- An empty row of one's own, new. -/
theorem own0 (W : World) : RowN (W.alloc (.cells #[] 3)) W.heap.size (.slice (some ⟨W.heap.size, 0, none⟩) 0 0) [] :=
  ⟨rfl, .inr ⟨W.heap.size, 0, #[], rfl, Nat.le_refl _, heap_alloc_new W _, Nat.le_refl _, by simp [maxLen], rfl, rfl⟩⟩
theorem RowN.nn {w : World} {base : Nat} {v : Value} {l : List Int} (h : RowN w base v l) (hl : 0 < l.length) : v.ownBlock ≠ none := by
  rcases h.2 with ⟨rfl, h0⟩ | ⟨b, cap, cur, rfl, _⟩
  · omega
  · simp [Value.ownBlock]
/-- The three parts, laid behind each other: the row, and the number's block. -/
theorem cat3 (W1 : World) (N : Nat) (v1 : Value) (p : Nat) (i : Int) (a1 a2 : Option Addr) (c1 m1 c2 m2 : Nat) (M1 M2 : List Int) (h1 : m1 = M1.length) (h2 : m2 = M2.length) (hN : N ≤ W1.heap.size) (hown : RowN W1 N v1 []) (hv : v1.ownBlock ≠ none) (hi1 : CH.INS W1 a1 M1) (hl : M1.length + M2.length ≤ 1000) :
    ∃ v2 W2, (Builtin.append_ #[34, 34] 34 #[v1, .slice a1 m1 c1]).run Tryd.prog W1 = .ok v2 W2 ∧ RowN W2 N v2 M1 ∧ W1.grownBy W2 v1.ownBlock ∧ v2.ownBlock ≠ none ∧ Below N W1 W2 := by
  obtain ⟨v2, W2, g1, g2, g3, g4⟩ := run_catG W1 N v1 [] a1 c1 m1 M1 h1 hown hi1 hv hN (by rw [List.length_nil]; omega)
  rw [List.nil_append] at g2
  exact ⟨v2, W2, g1, g2, g3, g4, hown.grown g3 hN⟩
theorem INS.take' {w : World} {rb off : Nat} {l : List Int} (h : ∀ (j : Nat) (x : Int), l[j]? = some x → w.cell? ⟨rb, off + j, none⟩ = some (.int .i64 x)) (k : Nat) : CH.INS w (some ⟨rb, off, none⟩) (l.take k) :=
  .inr ⟨rb, off, rfl, fun i x hx => h i x (by
    rw [List.getElem?_take] at hx
    split at hx
    · exact hx
    · cases hx)⟩
theorem INS.drop' {w : World} {rb off : Nat} {l : List Int} (h : ∀ (j : Nat) (x : Int), l[j]? = some x → w.cell? ⟨rb, off + j, none⟩ = some (.int .i64 x)) (k : Nat) : CH.INS w (some ⟨rb, off + k, none⟩) (l.drop k) :=
  .inr ⟨rb, off + k, rfl, fun i x hx => by
    rw [List.getElem?_drop] at hx
    have := h (k + i) x hx
    rw [show off + k + i = off + (k + i) from by omega]
    exact this⟩
end Go.Proofs.YtjbdhakogbolkaaDoor
end
