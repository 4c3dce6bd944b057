/- ModelKept: Spoil; new lists; three books on their way; the walk. -/
import Derived.Test.YtlnebbciefdpoaaDoorBkW
import Derived.Test.YtlnebbciefdpoaaDoorBkM
import Derived.Test.YtlnebbciefdpoaaDoorBkS
import Derived.Test.YtlnebbciefdpoaaDoorRMono
import Derived.Laws.AppendOwn
namespace Go.Proofs.YtlnebbciefdpoaaDoor
open Go.RowKit Go.Sort Go.Joins
set_option linter.unusedVariables false
/-- Places of one's own: n of them, of k cells each, in a block between lo and hi. -/
def Room (w : World) (lo up k : Nat) (a : Option Addr) (n : Nat) : Prop := n = 0 ∨ ∃ g cur t, a = some ⟨g, 0, none⟩ ∧ lo ≤ g ∧ g < up ∧ w.heap[g]? = some (.cells cur t (0, 0)) ∧ n * k ≤ cur.size
theorem Room.at_ {w : World} {lo up k n : Nat} {a : Option Addr} (h : Room w lo up k a n) {j : Nat} (hj : j < n) : ∃ g, a = some ⟨g, 0, none⟩ ∧ lo ≤ g ∧ g < up ∧ ∀ t, t < k → ∃ v, w.cell? ⟨g, j * k + t, none⟩ = some v ∧ w.frozen? ⟨g, j * k + t, none⟩ = false := by
  rcases h with h | ⟨g, cur, t, ha, h1, h2, h3, h4⟩
  · omega
  · refine ⟨g, ha, h1, h2, fun t' ht => ?_⟩
    have hb : j * k + t' < cur.size := by
      have : (j + 1) * k ≤ n * k := Nat.mul_le_mul_right k hj
      rw [Nat.add_mul] at this
      omega
    exact ⟨cur[j * k + t'], by rw [cell_of_block h3, Array.getElem?_eq_getElem hb], unfrozen_of_block h3 _⟩
theorem Room.set {w : World} {lo up k n : Nat} {a : Option Addr} (h : Room w lo up k a n) (b o : Nat) (v : Value) : Room (w.setCell ⟨b, o, none⟩ v) lo up k a n := by
  rcases h with h | ⟨g, cur, t, ha, h1, h2, h3, h4⟩
  · exact .inl h
  · by_cases hb : g = b
    · subst hb
      exact .inr ⟨g, _, t, ha, h1, h2, block_setCell h3 _, by simpa using h4⟩
    · exact .inr ⟨g, cur, t, ha, h1, h2, (Below.heap_setCell w ⟨b, o, none⟩ v g (fun e => hb e)).trans h3, h4⟩
theorem Room.below {w w' : World} {lo up k n : Nat} {a : Option Addr} (h : Room w lo up k a n) (hb : Below w.heap.size w w') : Room w' lo up k a n := by
  rcases h with h | ⟨g, cur, t, ha, h1, h2, h3, h4⟩
  · exact .inl h
  · exact .inr ⟨g, cur, t, ha, h1, h2, (hb.block g (Array.getElem?_eq_some_iff.1 h3).1).trans h3, h4⟩
/-- What stays while lists between lo and hi are written. -/
structure SpP (w : World) (lo up z : Nat) (a0 a1 a2 a3 a4 : Option Addr) (n0 n1 n2 n3 n4 c0 c1 c2 c3 c4 : Nat) (wr : World) : Prop where
  box : DBox wr z (.slice a0 n0 c0) (.slice a1 n1 c1) (.slice a2 n2 c2) (.slice a3 n3 c3) (.slice a4 n4 c4)
  r0 : Room wr lo up 1 a0 n0
  r1 : Room wr lo up 3 a1 n1
  r2 : Room wr lo up 2 a2 n2
  r3 : Room wr lo up 2 a3 n3
  r4 : Room wr lo up 2 a4 n4
  only : Only w wr fun k => lo ≤ k ∧ k < up
theorem SpP.set {w wr : World} {lo up z : Nat} {a0 a1 a2 a3 a4 : Option Addr} {n0 n1 n2 n3 n4 c0 c1 c2 c3 c4 : Nat} (h : SpP w lo up z a0 a1 a2 a3 a4 n0 n1 n2 n3 n4 c0 c1 c2 c3 c4 wr) (hz : up ≤ z) {g : Nat} (h1 : lo ≤ g) (h2 : g < up) (o : Nat) (v : Value) :
    SpP w lo up z a0 a1 a2 a3 a4 n0 n1 n2 n3 n4 c0 c1 c2 c3 c4 (wr.setCell ⟨g, o, none⟩ v) :=
  ⟨h.box.other (by omega) v, h.r0.set g o v, h.r1.set g o v, h.r2.set g o v, h.r3.set g o v, h.r4.set g o v, h.only.trans (Only.set (S := fun k => lo ≤ k ∧ k < up) g o v ⟨h1, h2⟩) (fun _ _ h => h)⟩
theorem SpP.over {w wr w' : World} {lo up z : Nat} {a0 a1 a2 a3 a4 : Option Addr} {n0 n1 n2 n3 n4 c0 c1 c2 c3 c4 : Nat} (h : SpP w lo up z a0 a1 a2 a3 a4 n0 n1 n2 n3 n4 c0 c1 c2 c3 c4 wr) (hb : Below wr.heap.size wr w') :
    SpP w lo up z a0 a1 a2 a3 a4 n0 n1 n2 n3 n4 c0 c1 c2 c3 c4 w' :=
  ⟨h.box.below hb h.box.lt, h.r0.below hb, h.r1.below hb, h.r2.below hb, h.r3.below hb, h.r4.below hb, h.only.trans (Only.ofBelow (S := fun _ => False) hb) (fun _ _ h => h.elim)⟩
set_option maxRecDepth 100000 in
set_option maxHeartbeats 4000000 in
theorem spoil_any (a0 a1 a2 a3 a4 : Option Addr) (n0 n1 n2 n3 n4 c0 c1 c2 c3 c4 lo up : Nat) (w : World) (hn : n0 ≤ 4611686018427387904 ∧ n1 ≤ 4611686018427387904 ∧ n2 ≤ 4611686018427387904 ∧ n3 ≤ 4611686018427387904 ∧ n4 ≤ 4611686018427387904) (hh : up ≤ w.heap.size)
    (h0 : Room w lo up 1 a0 n0) (h1 : Room w lo up 3 a1 n1) (h2 : Room w lo up 2 a2 n2) (h3 : Room w lo up 2 a3 n3) (h4 : Room w lo up 2 a4 n4) :
    Calls Tryd.prog 28 #[.agg #[.slice a0 n0 c0, .slice a1 n1 c1, .slice a2 n2 c2, .slice a3 n3 c3, .slice a4 n4 c4]] w fun e w' => e = .returned (.tuple #[]) ∧ Only w w' fun k => lo ≤ k ∧ k < up := by
  have hD := DBox.new w (.slice a0 n0 c0) (.slice a1 n1 c1) (.slice a2 n2 c2) (.slice a3 n3 c3) (.slice a4 n4 c4)
  have hb0 := box_below w (.cells #[.slice a0 n0 c0, .slice a1 n1 c1, .slice a2 n2 c2, .slice a3 n3 c3, .slice a4 n4 c4] 42)
  have hP0 : SpP w lo up w.heap.size a0 a1 a2 a3 a4 n0 n1 n2 n3 n4 c0 c1 c2 c3 c4 (w.alloc (.cells #[.slice a0 n0 c0, .slice a1 n1 c1, .slice a2 n2 c2, .slice a3 n3 c3, .slice a4 n4 c4] 42)) :=
    ⟨hD, h0.below hb0, h1.below hb0, h2.below hb0, h3.below hb0, h4.below hb0, Only.alloc _ _ _⟩
  clear h0 h1 h2 h3 h4 hb0 hD
  go_enter Tryd.func28, Tryd.ntmps28
  go_wp2_with fail
  obtain ⟨Y, hY⟩ : ∃ Y, Y = w.alloc (.cells #[.slice a0 n0 c0, .slice a1 n1 c1, .slice a2 n2 c2, .slice a3 n3 c3, .slice a4 n4 c4] 42) := ⟨_, rfl⟩
  rw [← hY] at hP0 ⊢
  clear hY
  obtain ⟨z, hz⟩ : ∃ z, z = w.heap.size := ⟨_, rfl⟩
  rw [← hz] at hP0 hh ⊢
  clear hz
  go_loopw [2] (fun v wr => ∃ i : Nat, i ≤ n0 ∧ v = .int .i64 (i : Nat) ∧ SpP w lo up z a0 a1 a2 a3 a4 n0 n1 n2 n3 n4 c0 c1 c2 c3 c4 wr) (fun v _ => n0 - (intOf v).toNat)
  case atStart => exact ⟨0, Nat.zero_le _, rfl, hP0⟩
  case round =>
    clear hP0
    obtain ⟨i, hi, rfl, hP⟩ := hrel
    have HP : Hid (SpP w lo up z a0 a1 a2 a3 a4 n0 n1 n2 n3 n4 c0 c1 c2 c3 c4 wr) := hP
    have x0 := hP.box.c0
    by_cases hlt : i < n0
    · obtain ⟨g, rfl, hg1, hg2, hc⟩ := hP.r0.at_ hlt
      obtain ⟨v0, e0, f0⟩ := hc 0 (by omega)
      rw [Nat.add_zero, Nat.mul_one] at e0 f0
      clear hP hc
      go_wp2_with fail
      refine ⟨⟨i + 1, by omega, by go_num, HP.out.set hh hg1 hg2 i _⟩, by simp only [intOf]; omega⟩
    · obtain rfl : n0 = i := by omega
      clear hP hi
      go_wp2_with fail
      clear x0 hlt
      go_loopw [3] (fun v wr => ∃ i : Nat, i ≤ n1 ∧ v = .int .i64 (i : Nat) ∧ SpP w lo up z a0 a1 a2 a3 a4 n0 n1 n2 n3 n4 c0 c1 c2 c3 c4 wr) (fun v _ => n1 - (intOf v).toNat)
      case atStart => exact ⟨0, Nat.zero_le _, rfl, HP.out⟩
      case round =>
        clear HP
        obtain ⟨i, hi, rfl, hP⟩ := hrel
        have HP : Hid (SpP w lo up z a0 a1 a2 a3 a4 n0 n1 n2 n3 n4 c0 c1 c2 c3 c4 wr) := hP
        have x0 := hP.box.c1
        by_cases hlt : i < n1
        · obtain ⟨g, rfl, hg1, hg2, hc⟩ := hP.r1.at_ hlt
          obtain ⟨v0, e0, f0⟩ := hc 0 (by omega)
          obtain ⟨v1, e1, f1⟩ := hc 1 (by omega)
          obtain ⟨v2, e2, f2⟩ := hc 2 (by omega)
          rw [Nat.add_zero] at e0 f0
          clear hP hc
          go_wp2_with fail
          refine ⟨⟨i + 1, by omega, by go_num, ((HP.out.set hh hg1 hg2 (i * 3) _).set hh hg1 hg2 (i * 3 + 1) _).set hh hg1 hg2 (i * 3 + 2) _⟩, by simp only [intOf]; omega⟩
        · have x2 := hP.box.c2
          have x3 := hP.box.c3
          have x4 := hP.box.c4
          obtain rfl : n1 = i := by omega
          clear hP hi
          go_wp2_with fail
          clear x0 x2 x3 x4 hlt
          have hb := box_below wr (.cells #[.slice a2 n2 c2, .slice a3 n3 c3, .slice a4 n4 c4] 31)
          have hB := heap_alloc_new wr (.cells #[.slice a2 n2 c2, .slice a3 n3 c3, .slice a4 n4 c4] 31)
          have hP1 := HP.out.over hb
          have hzl := HP.out.box.lt
          obtain ⟨V, hV⟩ : ∃ V, V = wr.alloc (.cells #[.slice a2 n2 c2, .slice a3 n3 c3, .slice a4 n4 c4] 31) := ⟨_, rfl⟩
          rw [← hV] at hb hB hP1 ⊢
          clear hV HP
          obtain ⟨gb, hgb⟩ : ∃ gb, gb = wr.heap.size := ⟨_, rfl⟩
          rw [← hgb] at hB ⊢
          have hzb : gb < V.heap.size := (Array.getElem?_eq_some_iff.1 hB).1
          have hub : up ≤ gb := by rw [hgb]; exact Nat.le_trans hh (Nat.le_of_lt hzl)
          clear hgb hb
          obtain ⟨av, hav⟩ : ∃ av : Nat → Option Addr, av = fun k => if k = 0 then a2 else if k = 1 then a3 else a4 := ⟨_, rfl⟩
          obtain ⟨nv, hnv⟩ : ∃ nv : Nat → Nat, nv = fun k => if k = 0 then n2 else if k = 1 then n3 else n4 := ⟨_, rfl⟩
          obtain ⟨cv, hcv⟩ : ∃ cv : Nat → Nat, cv = fun k => if k = 0 then c2 else if k = 1 then c3 else c4 := ⟨_, rfl⟩
          have HB : Hid (∀ wx : World, wx.heap[gb]? = some (.cells #[.slice a2 n2 c2, .slice a3 n3 c3, .slice a4 n4 c4] 31 (0, 0)) → ∀ k, k < 3 → wx.cell? ⟨gb, k, none⟩ = some (.slice (av k) (nv k) (cv k))) := by
            intro wx hx k hk
            rw [cell_of_block hx, hav, hnv, hcv]
            rcases (show k = 0 ∨ k = 1 ∨ k = 2 by omega) with rfl | rfl | rfl <;> rfl
          have HR : Hid (∀ wx, SpP w lo up z a0 a1 a2 a3 a4 n0 n1 n2 n3 n4 c0 c1 c2 c3 c4 wx → ∀ k, k < 3 → Room wx lo up 2 (av k) (nv k)) := by
            intro wx hx k hk
            rw [hav, hnv]
            rcases (show k = 0 ∨ k = 1 ∨ k = 2 by omega) with rfl | rfl | rfl
            · exact hx.r2
            · exact hx.r3
            · exact hx.r4
          have hnk : Hid (∀ k, nv k ≤ 4611686018427387904) := by
            intro k
            rw [hnv]
            show (if k = 0 then n2 else if k = 1 then n3 else n4) ≤ _
            split
            · omega
            · split <;> omega
          clear hav hnv hcv
          go_loopw [38] (fun v wr => ∃ i : Nat, i ≤ 3 ∧ v = .int .i64 (i : Nat) ∧ SpP w lo up z a0 a1 a2 a3 a4 n0 n1 n2 n3 n4 c0 c1 c2 c3 c4 wr ∧ wr.heap[gb]? = some (.cells #[.slice a2 n2 c2, .slice a3 n3 c3, .slice a4 n4 c4] 31 (0, 0))) (fun v _ => 3 - (intOf v).toNat)
          case atStart => exact ⟨0, Nat.zero_le _, rfl, hP1, hB⟩
          case round =>
            clear hP1 hB
            obtain ⟨i, hi, rfl, hP, hB⟩ := hrel
            by_cases hlt : i < 3
            · have y0 := HB.out _ hB i hlt
              have hR := HR.out _ hP i hlt
              have hnk := hnk.out i
              obtain ⟨ai, hai⟩ : ∃ x, x = av i := ⟨_, rfl⟩
              obtain ⟨ni, hni⟩ : ∃ x, x = nv i := ⟨_, rfl⟩
              obtain ⟨ci, hci⟩ : ∃ x, x = cv i := ⟨_, rfl⟩
              rw [← hai, ← hni] at hR
              rw [← hni] at hnk
              rw [← hai, ← hni, ← hci] at y0
              have HPB : Hid (SpP w lo up z a0 a1 a2 a3 a4 n0 n1 n2 n3 n4 c0 c1 c2 c3 c4 wr ∧ wr.heap[gb]? = some (.cells #[.slice a2 n2 c2, .slice a3 n3 c3, .slice a4 n4 c4] 31 (0, 0))) := ⟨hP, hB⟩
              have HRi : Hid (Room wr lo up 2 ai ni) := hR
              clear hai hni hci hP hB hR HB HR
              go_wp2_with fail
              obtain ⟨W, hW⟩ : ∃ W : World, W = wr := ⟨_, rfl⟩
              rw [← hW] at HPB HRi ⊢
              clear y0 hW
              go_loopw [6] (fun v wr => ∃ j : Nat, j ≤ ni ∧ v = .int .i64 (j : Nat) ∧ Room wr lo up 2 ai ni ∧ SpP w lo up z a0 a1 a2 a3 a4 n0 n1 n2 n3 n4 c0 c1 c2 c3 c4 wr ∧ wr.heap[gb]? = some (.cells #[.slice a2 n2 c2, .slice a3 n3 c3, .slice a4 n4 c4] 31 (0, 0))) (fun v _ => ni - (intOf v).toNat)
              case atStart => exact ⟨0, Nat.zero_le _, rfl, HRi.out, HPB.out⟩
              case round =>
                clear HPB HRi
                obtain ⟨j, hj, rfl, hR, hP, hB⟩ := hrel
                have HP : Hid (SpP w lo up z a0 a1 a2 a3 a4 n0 n1 n2 n3 n4 c0 c1 c2 c3 c4 wr) := hP
                have HB : Hid (wr.heap[gb]? = some (.cells #[.slice a2 n2 c2, .slice a3 n3 c3, .slice a4 n4 c4] 31 (0, 0))) := hB
                have HR : Hid (Room wr lo up 2 ai ni) := hR
                clear hP hB
                by_cases hjn : j < ni
                · obtain ⟨g, rfl, hg1, hg2, hc⟩ := hR.at_ hjn
                  obtain ⟨v0, e0, f0⟩ := hc 0 (by omega)
                  obtain ⟨v1, e1, f1⟩ := hc 1 (by omega)
                  rw [Nat.add_zero] at e0 f0
                  clear hR hc
                  go_wp2_with fail
                  refine ⟨⟨j + 1, by omega, by go_num, (HR.out.set g (j * 2) _).set g (j * 2 + 1) _, (HP.out.set hh hg1 hg2 (j * 2) _).set hh hg1 hg2 (j * 2 + 1) _, ((Below.heap_setCell _ _ _ gb (by show gb ≠ g; omega)).trans (Below.heap_setCell _ _ _ gb (by show gb ≠ g; omega))).trans HB.out⟩, by simp only [intOf]; omega⟩
                · clear hR
                  go_wp2_with fail
                  go_roundw
                  case rel => exact ⟨i + 1, by omega, by go_num, HP.out, HB.out⟩
                  case measure => simp only [intOf]; omega
            · clear hB
              go_wp2_with fail
              go_end0
              exact ⟨rfl, hP.only⟩
/-- append to a new, empty list. -/
theorem app_new {L T : TypeId} {i0 : TypeInfo} {z : Value} {size bytes : Nat} (hu : Tryd.prog.underlying L = some (.slice T)) (hi : Tryd.prog.info? T = some i0) (hz : i0.zero = some z) (hz1 : i0.size = size) (hz2 : i0.bytes = bytes) (hzs : z.cells.size = size)
    (W : World) (g : Nat) (hg : W.heap[g]? = some (.cells #[] T (0, 0))) (x : Option Addr) (n c : Nat) (cs : List Value) (hcs : cs.length = n * size) (hx : x = none → n = 0) (hcell : ∀ y, x = some y → ∀ j u, cs[j]? = some u → W.cell? (y.add j) = some u) (h1 : ∀ u ∈ cs, u.oneCell' = true) (hn : n * bytes ≤ 140737488355328) (h63 : n ≤ 281474976710656) :
    ∃ a' c' W', (Builtin.append_ #[L, L] L #[.slice (some ⟨g, 0, none⟩) 0 0, .slice x n c]).run Tryd.prog W = .ok (.slice a' n c') W' ∧ Below W.heap.size W W' ∧ n ≤ c' ∧ c' ≤ 9223372036854775807 ∧
      ((n = 0 ∧ c' = 0) ∨ (a' = some ⟨W.heap.size, 0, none⟩ ∧ ∃ cur : Array Value, W'.heap[W.heap.size]? = some (.cells cur T (0, 0)) ∧ cur.size = c' * size ∧ ∀ j, j < cs.length → cur[j]? = cs[j]?)) := by
  subst hz1
  subst hz2
  have hroom : ∀ y : Option Addr, n = 0 → Src Tryd.prog i0.size L (.slice y n c) n cs W → ∃ a' c' W', (Builtin.append_ #[L, L] L #[.slice (some ⟨g, 0, none⟩) 0 0, .slice y n c]).run Tryd.prog W = .ok (.slice a' n c') W' ∧ Below W.heap.size W W' ∧ n ≤ c' ∧ c' ≤ 9223372036854775807 ∧
      ((n = 0 ∧ c' = 0) ∨ (a' = some ⟨W.heap.size, 0, none⟩ ∧ ∃ cur : Array Value, W'.heap[W.heap.size]? = some (.cells cur T (0, 0)) ∧ cur.size = c' * i0.size ∧ ∀ j, j < cs.length → cur[j]? = cs[j]?)) := by
    intro y h0 hs
    have hcs0 : cs = [] := List.eq_nil_of_length_eq_zero (by rw [hcs, h0, Nat.zero_mul])
    have hr := run_append_room_src (P := Tryd.prog) W L L L T i0 hu hi g 0 0 0 _ n cs hs (by omega) (fun j hj => by rw [hcs0] at hj; simp at hj) (fun j hj => by rw [hcs0] at hj; simp at hj)
    rw [Nat.zero_add] at hr
    have e : W.setCells g (0 + 0 * i0.size) cs = W := by rw [hcs0]; rfl
    rw [e] at hr
    exact ⟨_, _, _, hr, Below.refl _ _, by omega, by omega, .inl ⟨h0, rfl⟩⟩
  cases x with
  | none =>
    have h0 := hx rfl
    have hcs0 : cs = [] := List.eq_nil_of_length_eq_zero (by rw [hcs, h0, Nat.zero_mul])
    refine hroom none h0 ?_
    rw [h0, hcs0]
    exact Src.ofNil W hu c
  | some y =>
    have hs := Src.ofSlice (P := Tryd.prog) (w := W) (size := i0.size) (tx := L) (e' := T) hu y n c cs hcs (hcell y rfl) h1
    by_cases h0 : n = 0
    · exact hroom (some y) h0 hs
    · have hfit : Builtin.nextslicecap (0 + n) 0 * i0.bytes ≤ 281474976710656 := by rw [Nat.zero_add]; exact growslice_fits (by omega) (by omega)
      have hr := run_append_grow_src (P := Tryd.prog) W L L L T i0 z hu hi hz (some ⟨g, 0, none⟩) 0 0 [] (run_firstCells_some (P := Tryd.prog) W.drew i0.size 0 ⟨g, 0, none⟩ 0 0 [] (by simp) (by simp)) _ n cs hs (by omega) (by omega) hfit
      have hge := grownCap_ge W (0 + n) 0 T
      have hcm : grownCap W (0 + n) 0 T ≤ maxLen := grownCap_le_maxLen W _ _ _ (by simp [maxLen]; omega)
      rw [Nat.zero_add] at hr hge hcm
      refine ⟨_, _, _, hr, ⟨rfl, rfl, rfl, by simp, fun k hk => heap_alloc_old W.drew _ hk⟩, hge, by simpa [maxLen] using hcm, .inr ⟨rfl, _, heap_alloc_new W.drew _, ?_, fun j hj => ?_⟩⟩
      · simp only [List.nil_append, Array.size_append, List.size_toArray, size_zeroCells, hzs, hcs]
        rw [← Nat.add_mul, Nat.add_sub_cancel' hge]
      · rw [List.nil_append, Array.getElem?_append_left (by simpa using hj)]
        simp
/-- A new, empty list's block. -/
def NewL (lo : Nat) (T : TypeId) (u : Value) (w : World) : Prop := ∃ g, u = .slice (some ⟨g, 0, none⟩) 0 0 ∧ lo ≤ g ∧ w.heap[g]? = some (.cells #[] T (0, 0))
theorem NewL.below {lo : Nat} {T : TypeId} {u : Value} {w w' : World} (h : NewL lo T u w) (hb : Below w.heap.size w w') : NewL lo T u w' := by
  obtain ⟨g, h1, h2, h3⟩ := h
  exact ⟨g, h1, h2, (hb.block g (Array.getElem?_eq_some_iff.1 h3).1).trans h3⟩
def QW (lo : Nat) (l : List ByteArray) (u : Value) (w : World) : Prop := ∃ a c, u = .slice a l.length c ∧ OwnW w lo a c l
def QM (lo : Nat) (l : List Mg) (u : Value) (w : World) : Prop := ∃ a c, u = .slice a l.length c ∧ OwnM w lo a c l
def QS (lo : Nat) (l : List Sp) (u : Value) (w : World) : Prop := ∃ a c, u = .slice a l.length c ∧ OwnS w lo a c l
theorem QW.below {lo : Nat} {l : List ByteArray} {u : Value} {w w' : World} (h : QW lo l u w) (hb : Below w.heap.size w w') : QW lo l u w' := by
  obtain ⟨a, c, h1, h2⟩ := h
  exact ⟨a, c, h1, h2.below hb⟩
theorem QM.below {lo : Nat} {l : List Mg} {u : Value} {w w' : World} (h : QM lo l u w) (hb : Below w.heap.size w w') : QM lo l u w' := by
  obtain ⟨a, c, h1, h2⟩ := h
  exact ⟨a, c, h1, h2.below hb⟩
theorem QS.below {lo : Nat} {l : List Sp} {u : Value} {w w' : World} (h : QS lo l u w) (hb : Below w.heap.size w w') : QS lo l u w' := by
  obtain ⟨a, c, h1, h2⟩ := h
  exact ⟨a, c, h1, h2.below hb⟩
theorem app_newW {lo : Nat} {u : Value} {W : World} (h : NewL lo 9 u W) (hlo : lo ≤ W.heap.size) (x : Option Addr) (c : Nat) (l : List ByteArray) (hl : l.length ≤ 8796093022208) (hs : WSP W x l) :
    ∃ v W', (Builtin.append_ #[38, 38] 38 #[u, .slice x l.length c]).run Tryd.prog W = .ok v W' ∧ Below W.heap.size W W' ∧ QW lo l v W' := by
  obtain ⟨g, rfl, hg, hh⟩ := h
  obtain ⟨i0, hi, hz0, hz1, hz2⟩ := info_parts infoW
  obtain ⟨a', c', W', hr, hb, hc1, hc2, hc⟩ := app_new Tryd.underlying38 hi hz0 hz1 hz2 rfl W g hh x l.length c (cellsW l) (cellsW_length l) (fun e => by
    rcases hs with h | ⟨b, off, h, _⟩
    · rw [h]; rfl
    · rw [e] at h; cases h) (fun y e => by subst e; exact hs.cells) (cellsW_one l) (by omega) (by omega)
  refine ⟨_, W', hr, hb, a', c', rfl, hc1, hc2, ?_⟩
  rcases hc with ⟨h1, h2⟩ | ⟨rfl, cur, h1, h2, h3⟩
  · exact .inl ⟨h2, List.eq_nil_of_length_eq_zero h1⟩
  · refine .inr ⟨_, cur, rfl, hlo, h1, h2, fun i y hy => ?_⟩
    have hi : i < l.length := (List.getElem?_eq_some_iff.1 hy).1
    rw [h3 i (by rw [cellsW_length]; omega), cellsW_get hy]
theorem app_newM {lo : Nat} {u : Value} {W : World} (h : NewL lo 36 u W) (hlo : lo ≤ W.heap.size) (x : Option Addr) (c : Nat) (l : List Mg) (hl : l.length ≤ 5864062014805) (hs : MSP W x l) :
    ∃ v W', (Builtin.append_ #[39, 39] 39 #[u, .slice x l.length c]).run Tryd.prog W = .ok v W' ∧ Below W.heap.size W W' ∧ QM lo l v W' := by
  obtain ⟨g, rfl, hg, hh⟩ := h
  obtain ⟨i0, hi, hz0, hz1, hz2⟩ := info_parts infoM
  obtain ⟨a', c', W', hr, hb, hc1, hc2, hc⟩ := app_new Tryd.underlying39 hi hz0 hz1 hz2 (by simp [Value.cells]) W g hh x l.length c (cellsM l) (cellsM_length l) (fun e => by
    rcases hs with h | ⟨b, off, h, _⟩
    · rw [h]; rfl
    · rw [e] at h; cases h) (fun y e => by subst e; exact hs.cells) (cellsM_one l) (by omega) (by omega)
  refine ⟨_, W', hr, hb, a', c', rfl, hc1, hc2, ?_⟩
  rcases hc with ⟨h1, h2⟩ | ⟨rfl, cur, h1, h2, h3⟩
  · exact .inl ⟨h2, List.eq_nil_of_length_eq_zero h1⟩
  · refine .inr ⟨_, cur, rfl, hlo, h1, h2, fun i y hy => ?_⟩
    have hi : i < l.length := (List.getElem?_eq_some_iff.1 hy).1
    obtain ⟨q0, q1, q2⟩ := cellsM_get _ _ _ hy
    exact ⟨by rw [h3 _ (by rw [cellsM_length]; omega), q0], by rw [h3 _ (by rw [cellsM_length]; omega), q1], by rw [h3 _ (by rw [cellsM_length]; omega), q2]⟩
theorem app_newS {lo : Nat} {u : Value} {W : World} (h : NewL lo 30 u W) (hlo : lo ≤ W.heap.size) (x : Option Addr) (c : Nat) (l : List Sp) (hl : l.length ≤ 17592186044416) (hs : SPS W x l) :
    ∃ v W', (Builtin.append_ #[31, 31] 31 #[u, .slice x l.length c]).run Tryd.prog W = .ok v W' ∧ Below W.heap.size W W' ∧ QS lo l v W' := by
  obtain ⟨g, rfl, hg, hh⟩ := h
  obtain ⟨i0, hi, hz0, hz1, hz2⟩ := info_parts info26
  obtain ⟨a', c', W', hr, hb, hc1, hc2, hc⟩ := app_new Tryd.underlying31 hi hz0 hz1 hz2 (by simp [Value.cells]) W g hh x l.length c (cellsS l) (cellsS_length l) (fun e => by
    rcases hs with h | ⟨b, off, h, _⟩
    · rw [h]; rfl
    · rw [e] at h; cases h) (fun y e => by subst e; exact hs.cells) (cellsS_one l) (by omega) (by omega)
  refine ⟨_, W', hr, hb, a', c', rfl, hc1, hc2, ?_⟩
  rcases hc with ⟨h1, h2⟩ | ⟨rfl, cur, h1, h2, h3⟩
  · exact .inl ⟨h2, List.eq_nil_of_length_eq_zero h1⟩
  · refine .inr ⟨_, cur, rfl, hlo, h1, h2, fun i y hy => ?_⟩
    have hi : i < l.length := (List.getElem?_eq_some_iff.1 hy).1
    obtain ⟨q0, q1⟩ := cellsS_get _ _ _ hy
    exact ⟨by rw [h3 _ (by rw [cellsS_length]; omega), q0], by rw [h3 _ (by rw [cellsS_length]; omega), q1]⟩
theorem OwnW.room {w : World} {lo up : Nat} {a : Option Addr} {c : Nat} {l : List ByteArray} (h : OwnW w lo a c l) (hu : w.heap.size ≤ up) : Room w lo up 1 a l.length := by
  rcases h.row with ⟨-, h1⟩ | ⟨g, cur, h1, h2, h3, h4, h5⟩
  · exact .inl (by rw [h1]; rfl)
  · exact .inr ⟨g, cur, _, h1, h2, Nat.lt_of_lt_of_le (Array.getElem?_eq_some_iff.1 h3).1 hu, h3, by rw [h4]; exact Nat.mul_le_mul_right _ h.le⟩
theorem OwnM.room {w : World} {lo up : Nat} {a : Option Addr} {c : Nat} {l : List Mg} (h : OwnM w lo a c l) (hu : w.heap.size ≤ up) : Room w lo up 3 a l.length := by
  rcases h.row with ⟨-, h1⟩ | ⟨g, cur, h1, h2, h3, h4, h5⟩
  · exact .inl (by rw [h1]; rfl)
  · exact .inr ⟨g, cur, _, h1, h2, Nat.lt_of_lt_of_le (Array.getElem?_eq_some_iff.1 h3).1 hu, h3, by rw [h4]; exact Nat.mul_le_mul_right _ h.le⟩
theorem OwnS.room {w : World} {lo up : Nat} {a : Option Addr} {c : Nat} {l : List Sp} (h : OwnS w lo a c l) (hu : w.heap.size ≤ up) : Room w lo up 2 a l.length := by
  rcases h.row with ⟨-, h1⟩ | ⟨g, cur, h1, h2, h3, h4, h5⟩
  · exact .inl (by rw [h1]; rfl)
  · exact .inr ⟨g, cur, _, h1, h2, Nat.lt_of_lt_of_le (Array.getElem?_eq_some_iff.1 h3).1 hu, h3, by rw [h4]; exact Nat.mul_le_mul_right _ h.le⟩
/-- What lies from lo on stands as it stood. -/
def From (lo : Nat) (w w' : World) : Prop := ∀ k, lo ≤ k → k < w.heap.size → w'.heap[k]? = w.heap[k]?
theorem WPR.from_ {w w' : World} {lo s c : Nat} {a : Option Addr} {l : List ByteArray} (h : WPR w s a c l) (hs : lo ≤ s) (hk : From lo w w') : WPR w' s a c l := by
  rcases h with h | ⟨g, cur, h1, h2, h3, h4⟩
  · exact .inl h
  · exact .inr ⟨g, cur, h1, h2, (hk g (by omega) (Array.getElem?_eq_some_iff.1 h3).1).trans h3, h4⟩
theorem MPR.from_ {w w' : World} {lo s c : Nat} {a : Option Addr} {l : List Mg} (h : MPR w s a c l) (hs : lo ≤ s) (hk : From lo w w') : MPR w' s a c l := by
  rcases h with h | ⟨g, cur, h1, h2, h3, h4⟩
  · exact .inl h
  · exact .inr ⟨g, cur, h1, h2, (hk g (by omega) (Array.getElem?_eq_some_iff.1 h3).1).trans h3, h4⟩
theorem SPRc.from_ {w w' : World} {lo s c : Nat} {a : Option Addr} {l : List Sp} (h : SPRc w s a c l) (hs : lo ≤ s) (hk : From lo w w') : SPRc w' s a c l := by
  rcases h with h | ⟨g, cur, h1, h2, h3, h4⟩
  · exact .inl h
  · exact .inr ⟨g, cur, h1, h2, (hk g (by omega) (Array.getElem?_eq_some_iff.1 h3).1).trans h3, h4⟩
theorem SPR.from_ {w w' : World} {lo s : Nat} {a : Option Addr} {l : List Sp} (h : SPR w s a l) (hs : lo ≤ s) (hk : From lo w w') : SPR w' s a l := by
  rcases h with h | ⟨g, cur, h1, h2, h3, h4⟩
  · exact .inl h
  · exact .inr ⟨g, cur, h1, h2, (hk g (by omega) (Array.getElem?_eq_some_iff.1 h3).1).trans h3, h4⟩
theorem ModelAt.from_ {w w' : World} {lo g : Nat} {ws : List ByteArray} {ms : List Mg} {A B C : List Sp} (h : ModelAt w lo g ws ms A B C) (hk : From lo w w') : ModelAt w' lo g ws ms A B C := by
  obtain ⟨a0, c0, a1, c1, a2, c2, a3, c3, a4, c4, gt, gr, h1, h2, h3, ⟨p1, p2, s3, s4, e1, e2, p3, u3, p4, u4, p5⟩, ⟨ad, cp, t1, t2, t3⟩, h6⟩ := h
  exact ⟨a0, c0, a1, c1, a2, c2, a3, c3, a4, c4, gt, gr, h1, h2, (hk _ h1 (Array.getElem?_eq_some_iff.1 h3).1).trans h3,
    ⟨⟨p1.le, p1.cap, p1.row.from_ (Nat.le_refl _) hk⟩, ⟨p2.le, p2.cap, p2.row.from_ (Nat.le_refl _) hk⟩, s3, s4, e1, e2, ⟨p3.le, p3.cap, p3.row.from_ (Nat.le_refl _) hk⟩, u3, ⟨p4.le, p4.cap, p4.row.from_ e1 hk⟩, u4, ⟨p5.le, p5.cap, p5.row.from_ (Nat.le_trans e1 e2) hk⟩⟩,
    ⟨ad, cp, t1, (hk _ t1 (Array.getElem?_eq_some_iff.1 t2).1).trans t2, fun j hj => ⟨(t3 j hj).1, (t3 j hj).2.1, (t3 j hj).2.2.from_ (Nat.le_refl _) hk⟩⟩, h6.kept (hk _ h2 h6.lt)⟩
theorem Only.from_ {w w' : World} {lo up : Nat} (h : Only w w' fun k => lo ≤ k ∧ k < up) : From up w w' := fun k hk hlt => h.block k hlt (fun hs => by omega)
/-- A book of texts: n lists at the most, that lie under s. -/
def BkW3 (w : World) (base n s : Nat) : Prop := ∃ vl vw es held, (n = 0 ∨ 0 < es.length) ∧ es.length ≤ n ∧ BW.BookInv w base base vl vw es held ∧ BW.Bnd es s
theorem BkW3.over {w w1 : World} {base n s : Nat} (h : BkW3 w base n s) {S : Nat → Prop} (ho : Only w w1 S) (hS : ∀ k, S k → ¬ BW.Wr w base k) : BkW3 w1 base n s := by
  obtain ⟨vl, vw, es, held, h1, h2, h3, h4⟩ := h
  exact ⟨vl, vw, es, held, h1, h2, h3.over (Nat.le_refl _) ho hS, h4⟩
theorem BkW3.below {w w1 : World} {base n s : Nat} (h : BkW3 w base n s) (hb : Below w.heap.size w w1) : BkW3 w1 base n s := h.over (Only.ofBelow (S := fun _ => False) hb) (fun _ h => h.elim)
theorem BkW3.up {w : World} {base n s : Nat} (h : BkW3 w base n s) : BkW3 w base n w.heap.size := by
  obtain ⟨vl, vw, es, held, h1, h2, h3, h4⟩ := h
  exact ⟨vl, vw, es, held, h1, h2, h3, h3.bnd⟩
theorem BkW3.keep {w : World} {base n s s' : Nat} (h : BkW3 w base n s) (hn : n ≤ 100) {a : Option Addr} {c : Nat} {l : List ByteArray} (hv : BW.OV w s (.slice a l.length c) l) (hl : l.length ≤ 4096) (hb : base ≤ s) (hs : s ≤ s') (hw : base ≤ w.heap.size) (hu : ∀ g, ob (.slice a l.length c) = some g → g < s') :
    Calls Tryd.prog 29 #[.pointer (some ⟨base, 0, none⟩), .slice a l.length c] w fun e w' => e = .returned (.tuple #[]) ∧ BkW3 w' base (n + 1) s' ∧ Only w w' (BW.Wk w base) := by
  obtain ⟨vl, vw, es, held, h1, h2, h3, h4⟩ := h
  refine (BW.keep_any w base base vl vw es held a c l h3 (hv.le hb) hw (by omega) (by omega) (h4.fresh hv)).mono ?_
  rintro e w' ⟨rfl, hp⟩
  obtain ⟨vl', vw', es', held', g1, g2, g3, g4, g5⟩ := hp.use h3 (Nat.le_refl _) h4 hs hu
  exact ⟨rfl, ⟨vl', vw', es', held', .inr g1, by omega, g3, g4⟩, g5⟩
theorem BkW3.apart {w : World} {base n s : Nat} (h : BkW3 w base n s) (h0 : 0 < n) (hn : n ≤ 100) :
    Calls Tryd.prog 32 #[.pointer (some ⟨base, 0, none⟩), .func (.func 33) #[] #[]] w fun e w' => e = .returned (.bool true) ∧ Only w w' (BW.Wr w base) := by
  obtain ⟨vl, vw, es, held, h1, h2, h3, h4⟩ := h
  exact BW.apart_any w base base vl vw es held h3 (by omega) (by omega) (Nat.le_refl _)
/-- A book of merges: n lists at the most, that lie under s. -/
def BkM3 (w : World) (base n s : Nat) : Prop := ∃ vl vw es held, (n = 0 ∨ 0 < es.length) ∧ es.length ≤ n ∧ BM.BookInv w base (base + 1) vl vw es held ∧ BM.Bnd es s
theorem BkM3.over {w w1 : World} {base n s : Nat} (h : BkM3 w base n s) {S : Nat → Prop} (ho : Only w w1 S) (hS : ∀ k, S k → ¬ BM.Wr w base k) : BkM3 w1 base n s := by
  obtain ⟨vl, vw, es, held, h1, h2, h3, h4⟩ := h
  exact ⟨vl, vw, es, held, h1, h2, h3.over (Nat.le_add_right _ _) ho hS, h4⟩
theorem BkM3.below {w w1 : World} {base n s : Nat} (h : BkM3 w base n s) (hb : Below w.heap.size w w1) : BkM3 w1 base n s := h.over (Only.ofBelow (S := fun _ => False) hb) (fun _ h => h.elim)
theorem BkM3.up {w : World} {base n s : Nat} (h : BkM3 w base n s) : BkM3 w base n w.heap.size := by
  obtain ⟨vl, vw, es, held, h1, h2, h3, h4⟩ := h
  exact ⟨vl, vw, es, held, h1, h2, h3, h3.bnd⟩
theorem BkM3.keep {w : World} {base n s s' : Nat} (h : BkM3 w base n s) (hn : n ≤ 100) {a : Option Addr} {c : Nat} {l : List Mg} (hv : BM.OV w s (.slice a l.length c) l) (hl : l.length ≤ 4096) (hb : base ≤ s) (hs : s ≤ s') (hw : base ≤ w.heap.size) (hu : ∀ g, ob (.slice a l.length c) = some g → g < s') :
    Calls Tryd.prog 30 #[.pointer (some ⟨base + 1, 0, none⟩), .slice a l.length c] w fun e w' => e = .returned (.tuple #[]) ∧ BkM3 w' base (n + 1) s' ∧ Only w w' (BM.Wk w base) := by
  obtain ⟨vl, vw, es, held, h1, h2, h3, h4⟩ := h
  refine (BM.keep_any w base (base + 1) vl vw es held a c l h3 (hv.le hb) hw (by omega) (by omega) (h4.fresh hv)).mono ?_
  rintro e w' ⟨rfl, hp⟩
  obtain ⟨vl', vw', es', held', g1, g2, g3, g4, g5⟩ := hp.use h3 (Nat.le_add_right _ _) h4 hs hu
  exact ⟨rfl, ⟨vl', vw', es', held', .inr g1, by omega, g3, g4⟩, g5⟩
theorem BkM3.apart {w : World} {base n s : Nat} (h : BkM3 w base n s) (h0 : 0 < n) (hn : n ≤ 100) :
    Calls Tryd.prog 34 #[.pointer (some ⟨base + 1, 0, none⟩), .func (.func 35) #[] #[]] w fun e w' => e = .returned (.bool true) ∧ Only w w' (BM.Wr w base) := by
  obtain ⟨vl, vw, es, held, h1, h2, h3, h4⟩ := h
  exact BM.apart_any w base (base + 1) vl vw es held h3 (by omega) (by omega) (Nat.le_add_right _ _)
/-- A book of spans: n lists at the most, that lie under s. -/
def BkS3 (w : World) (base n s : Nat) : Prop := ∃ vl vw es held, (n = 0 ∨ 0 < es.length) ∧ es.length ≤ n ∧ BS.BookInv w base (base + 2) vl vw es held ∧ BS.Bnd es s
theorem BkS3.over {w w1 : World} {base n s : Nat} (h : BkS3 w base n s) {S : Nat → Prop} (ho : Only w w1 S) (hS : ∀ k, S k → ¬ BS.Wr w base k) : BkS3 w1 base n s := by
  obtain ⟨vl, vw, es, held, h1, h2, h3, h4⟩ := h
  exact ⟨vl, vw, es, held, h1, h2, h3.over (Nat.le_add_right _ _) ho hS, h4⟩
theorem BkS3.below {w w1 : World} {base n s : Nat} (h : BkS3 w base n s) (hb : Below w.heap.size w w1) : BkS3 w1 base n s := h.over (Only.ofBelow (S := fun _ => False) hb) (fun _ h => h.elim)
theorem BkS3.up {w : World} {base n s : Nat} (h : BkS3 w base n s) : BkS3 w base n w.heap.size := by
  obtain ⟨vl, vw, es, held, h1, h2, h3, h4⟩ := h
  exact ⟨vl, vw, es, held, h1, h2, h3, h3.bnd⟩
theorem BkS3.keep {w : World} {base n s s' : Nat} (h : BkS3 w base n s) (hn : n ≤ 100) {a : Option Addr} {c : Nat} {l : List Sp} (hv : BS.OV w s (.slice a l.length c) l) (hl : l.length ≤ 4096) (hb : base ≤ s) (hs : s ≤ s') (hw : base ≤ w.heap.size) (hu : ∀ g, ob (.slice a l.length c) = some g → g < s') :
    Calls Tryd.prog 31 #[.pointer (some ⟨base + 2, 0, none⟩), .slice a l.length c] w fun e w' => e = .returned (.tuple #[]) ∧ BkS3 w' base (n + 1) s' ∧ Only w w' (BS.Wk w base) := by
  obtain ⟨vl, vw, es, held, h1, h2, h3, h4⟩ := h
  refine (BS.keep_any w base (base + 2) vl vw es held a c l h3 (hv.le hb) hw (by omega) (by omega) (h4.fresh hv)).mono ?_
  rintro e w' ⟨rfl, hp⟩
  obtain ⟨vl', vw', es', held', g1, g2, g3, g4, g5⟩ := hp.use h3 (Nat.le_add_right _ _) h4 hs hu
  exact ⟨rfl, ⟨vl', vw', es', held', .inr g1, by omega, g3, g4⟩, g5⟩
theorem BkS3.apart {w : World} {base n s : Nat} (h : BkS3 w base n s) (h0 : 0 < n) (hn : n ≤ 100) :
    Calls Tryd.prog 36 #[.pointer (some ⟨base + 2, 0, none⟩), .func (.func 37) #[] #[]] w fun e w' => e = .returned (.bool true) ∧ Only w w' (BS.Wr w base) := by
  obtain ⟨vl, vw, es, held, h1, h2, h3, h4⟩ := h
  exact BS.apart_any w base (base + 2) vl vw es held h3 (by omega) (by omega) (Nat.le_add_right _ _)
theorem wrW_notM {w : World} {base : Nat} : ∀ k, BW.Wr w base k → ¬ BM.Wr w base k := by
  rintro k ⟨-, h | h | h⟩ ⟨-, h' | h' | h'⟩ <;> exact absurd rfl (h.ne h' (by decide))
theorem wkW_notM {w : World} {base : Nat} : ∀ k, BW.Wk w base k → ¬ BM.Wr w base k := by
  rintro k ⟨-, h | h⟩ ⟨-, h' | h' | h'⟩ <;> exact absurd rfl (h.ne h' (by decide))
theorem wrW_notS {w : World} {base : Nat} : ∀ k, BW.Wr w base k → ¬ BS.Wr w base k := by
  rintro k ⟨-, h | h | h⟩ ⟨-, h' | h' | h'⟩ <;> exact absurd rfl (h.ne h' (by decide))
theorem wkW_notS {w : World} {base : Nat} : ∀ k, BW.Wk w base k → ¬ BS.Wr w base k := by
  rintro k ⟨-, h | h⟩ ⟨-, h' | h' | h'⟩ <;> exact absurd rfl (h.ne h' (by decide))
theorem wrM_notW {w : World} {base : Nat} : ∀ k, BM.Wr w base k → ¬ BW.Wr w base k := by
  rintro k ⟨-, h | h | h⟩ ⟨-, h' | h' | h'⟩ <;> exact absurd rfl (h.ne h' (by decide))
theorem wkM_notW {w : World} {base : Nat} : ∀ k, BM.Wk w base k → ¬ BW.Wr w base k := by
  rintro k ⟨-, h | h⟩ ⟨-, h' | h' | h'⟩ <;> exact absurd rfl (h.ne h' (by decide))
theorem wrM_notS {w : World} {base : Nat} : ∀ k, BM.Wr w base k → ¬ BS.Wr w base k := by
  rintro k ⟨-, h | h | h⟩ ⟨-, h' | h' | h'⟩ <;> exact absurd rfl (h.ne h' (by decide))
theorem wkM_notS {w : World} {base : Nat} : ∀ k, BM.Wk w base k → ¬ BS.Wr w base k := by
  rintro k ⟨-, h | h⟩ ⟨-, h' | h' | h'⟩ <;> exact absurd rfl (h.ne h' (by decide))
theorem wrS_notW {w : World} {base : Nat} : ∀ k, BS.Wr w base k → ¬ BW.Wr w base k := by
  rintro k ⟨-, h | h | h⟩ ⟨-, h' | h' | h'⟩ <;> exact absurd rfl (h.ne h' (by decide))
theorem wkS_notW {w : World} {base : Nat} : ∀ k, BS.Wk w base k → ¬ BW.Wr w base k := by
  rintro k ⟨-, h | h⟩ ⟨-, h' | h' | h'⟩ <;> exact absurd rfl (h.ne h' (by decide))
theorem wrS_notM {w : World} {base : Nat} : ∀ k, BS.Wr w base k → ¬ BM.Wr w base k := by
  rintro k ⟨-, h | h | h⟩ ⟨-, h' | h' | h'⟩ <;> exact absurd rfl (h.ne h' (by decide))
theorem wkS_notM {w : World} {base : Nat} : ∀ k, BS.Wk w base k → ¬ BM.Wr w base k := by
  rintro k ⟨-, h | h⟩ ⟨-, h' | h' | h'⟩ <;> exact absurd rfl (h.ne h' (by decide))
/-- The three books, and all that lay there ahead of them. -/
structure RS (W0 w : World) (base nw nm ns sw sm ss : Nat) : Prop where
  b0 : base = W0.heap.size
  low : Below base W0 w
  bw : BkW3 w base nw sw
  bm : BkM3 w base nm sm
  bs : BkS3 w base ns ss
theorem RS.size {W0 w : World} {base nw nm ns sw sm ss : Nat} (h : RS W0 w base nw nm ns sw sm ss) : base ≤ w.heap.size := by
  have := h.low.size
  have := h.b0
  omega
theorem RS.below {W0 w w' : World} {base nw nm ns sw sm ss : Nat} (h : RS W0 w base nw nm ns sw sm ss) (hb : Below w.heap.size w w') : RS W0 w' base nw nm ns sw sm ss :=
  ⟨h.b0, h.low.trans (hb.mono h.size), h.bw.below hb, h.bm.below hb, h.bs.below hb⟩
theorem RS.up {W0 w : World} {base nw nm ns sw sm ss : Nat} (h : RS W0 w base nw nm ns sw sm ss) : RS W0 w base nw nm ns w.heap.size w.heap.size w.heap.size :=
  ⟨h.b0, h.low, h.bw.up, h.bm.up, h.bs.up⟩
theorem RS.keepW {W0 w : World} {base nw nm ns sw sm ss s' : Nat} (h : RS W0 w base nw nm ns sw sm ss) (hn : nw ≤ 100) {a : Option Addr} {c : Nat} {l : List ByteArray} (hv : BW.OV w sw (.slice a l.length c) l) (hl : l.length ≤ 4096) (hb : base ≤ sw) (hs : sw ≤ s') (hu : ∀ g, ob (.slice a l.length c) = some g → g < s') :
    Calls Tryd.prog 29 #[.pointer (some ⟨base, 0, none⟩), .slice a l.length c] w fun e w' => e = .returned (.tuple #[]) ∧ RS W0 w' base (nw + 1) nm ns s' sm ss ∧ Only w w' (BW.Wk w base) := by
  refine (h.bw.keep hn hv hl hb hs h.size hu).mono ?_
  rintro e w' hp
  have ho := hp.2.2
  exact ⟨hp.1, ⟨h.b0, h.low.trans (ho.below (fun i hi => hi.1) h.size), hp.2.1, h.bm.over ho wkW_notM, h.bs.over ho wkW_notS⟩, ho⟩
theorem RS.keepM {W0 w : World} {base nw nm ns sw sm ss s' : Nat} (h : RS W0 w base nw nm ns sw sm ss) (hn : nm ≤ 100) {a : Option Addr} {c : Nat} {l : List Mg} (hv : BM.OV w sm (.slice a l.length c) l) (hl : l.length ≤ 4096) (hb : base ≤ sm) (hs : sm ≤ s') (hu : ∀ g, ob (.slice a l.length c) = some g → g < s') :
    Calls Tryd.prog 30 #[.pointer (some ⟨base + 1, 0, none⟩), .slice a l.length c] w fun e w' => e = .returned (.tuple #[]) ∧ RS W0 w' base nw (nm + 1) ns sw s' ss ∧ Only w w' (BM.Wk w base) := by
  refine (h.bm.keep hn hv hl hb hs h.size hu).mono ?_
  rintro e w' hp
  have ho := hp.2.2
  exact ⟨hp.1, ⟨h.b0, h.low.trans (ho.below (fun i hi => hi.1) h.size), h.bw.over ho wkM_notW, hp.2.1, h.bs.over ho wkM_notS⟩, ho⟩
theorem RS.keepS {W0 w : World} {base nw nm ns sw sm ss s' : Nat} (h : RS W0 w base nw nm ns sw sm ss) (hn : ns ≤ 100) {a : Option Addr} {c : Nat} {l : List Sp} (hv : BS.OV w ss (.slice a l.length c) l) (hl : l.length ≤ 4096) (hb : base ≤ ss) (hs : ss ≤ s') (hu : ∀ g, ob (.slice a l.length c) = some g → g < s') :
    Calls Tryd.prog 31 #[.pointer (some ⟨base + 2, 0, none⟩), .slice a l.length c] w fun e w' => e = .returned (.tuple #[]) ∧ RS W0 w' base nw nm (ns + 1) sw sm s' ∧ Only w w' (BS.Wk w base) := by
  refine (h.bs.keep hn hv hl hb hs h.size hu).mono ?_
  rintro e w' hp
  have ho := hp.2.2
  exact ⟨hp.1, ⟨h.b0, h.low.trans (ho.below (fun i hi => hi.1) h.size), h.bw.over ho wkS_notW, h.bm.over ho wkS_notM, hp.2.1⟩, ho⟩
/-- Blocks of lists and of data. -/
def Tys (w : World) (k : Nat) : Prop := TyB w 9 k ∨ TyB w 36 k ∨ TyB w 30 k ∨ TyB w 42 k
theorem wkW_tys {w : World} {base : Nat} : ∀ k, BW.Wk w base k → ¬ Tys w k := by
  rintro k ⟨-, h | h⟩ (h' | h' | h' | h') <;> exact absurd rfl (h.ne h' (by decide))
theorem wkM_tys {w : World} {base : Nat} : ∀ k, BM.Wk w base k → ¬ Tys w k := by
  rintro k ⟨-, h | h⟩ (h' | h' | h' | h') <;> exact absurd rfl (h.ne h' (by decide))
theorem wkS_tys {w : World} {base : Nat} : ∀ k, BS.Wk w base k → ¬ Tys w k := by
  rintro k ⟨-, h | h⟩ (h' | h' | h' | h') <;> exact absurd rfl (h.ne h' (by decide))
/-- What Data handed out, in a box. -/
structure XS (w : World) (lo s3 s4 zx : Nat) (a0 a1 a2 a3 a4 : Option Addr) (c0 c1 c2 c3 c4 : Nat) (ws : List ByteArray) (ms : List Mg) (A B C : List Sp) : Prop where
  box : DBox w zx (.slice a0 ws.length c0) (.slice a1 ms.length c1) (.slice a2 A.length c2) (.slice a3 B.length c3) (.slice a4 C.length c4)
  o0 : BW.OV w lo (.slice a0 ws.length c0) ws
  o1 : BM.OV w lo (.slice a1 ms.length c1) ms
  o2 : BS.OV w lo (.slice a2 A.length c2) A
  o3 : BS.OV w s3 (.slice a3 B.length c3) B
  o4 : BS.OV w s4 (.slice a4 C.length c4) C
theorem XS.over {w w' : World} {lo s3 s4 zx : Nat} {a0 a1 a2 a3 a4 : Option Addr} {c0 c1 c2 c3 c4 : Nat} {ws : List ByteArray} {ms : List Mg} {A B C : List Sp} (h : XS w lo s3 s4 zx a0 a1 a2 a3 a4 c0 c1 c2 c3 c4 ws ms A B C) {S : Nat → Prop} (ho : Only w w' S) (hS : ∀ k, S k → ¬ Tys w k) : XS w' lo s3 s4 zx a0 a1 a2 a3 a4 c0 c1 c2 c3 c4 ws ms A B C :=
  ⟨(ho.block zx h.box.lt (fun hs => hS _ hs (.inr (.inr (.inr ⟨_, h.box⟩))))).trans h.box, h.o0.over ho (fun k hk ht => hS k hk (.inl ht)), h.o1.over ho (fun k hk ht => hS k hk (.inr (.inl ht))), h.o2.over ho (fun k hk ht => hS k hk (.inr (.inr (.inl ht)))), h.o3.over ho (fun k hk ht => hS k hk (.inr (.inr (.inl ht)))), h.o4.over ho (fun k hk ht => hS k hk (.inr (.inr (.inl ht))))⟩
theorem XS.below {w w' : World} {lo s3 s4 zx : Nat} {a0 a1 a2 a3 a4 : Option Addr} {c0 c1 c2 c3 c4 : Nat} {ws : List ByteArray} {ms : List Mg} {A B C : List Sp} (h : XS w lo s3 s4 zx a0 a1 a2 a3 a4 c0 c1 c2 c3 c4 ws ms A B C) (hb : Below w.heap.size w w') : XS w' lo s3 s4 zx a0 a1 a2 a3 a4 c0 c1 c2 c3 c4 ws ms A B C :=
  h.over (Only.ofBelow (S := fun _ => False) hb) (fun _ h => h.elim)
theorem OwnD.xs {w : World} {lo zx : Nat} {a0 a1 a2 a3 a4 : Option Addr} {c0 c1 c2 c3 c4 : Nat} {ws : List ByteArray} {ms : List Mg} {A B C : List Sp} (h : OwnD w lo a0 c0 a1 c1 a2 c2 a3 c3 a4 c4 ws ms A B C) (hb : DBox w zx (.slice a0 ws.length c0) (.slice a1 ms.length c1) (.slice a2 A.length c2) (.slice a3 B.length c3) (.slice a4 C.length c4)) :
    ∃ s3 s4, lo ≤ s3 ∧ s3 ≤ s4 ∧ Und a2 c2 s3 ∧ Und a3 c3 s4 ∧ XS w lo s3 s4 zx a0 a1 a2 a3 a4 c0 c1 c2 c3 c4 ws ms A B C := by
  obtain ⟨h1, h2, s3, s4, e1, e2, p1, p2, p3, p4, p5⟩ := h
  exact ⟨s3, s4, e1, e2, p2, p4, hb, ⟨_, _, rfl, h1⟩, ⟨_, _, rfl, h2⟩, ⟨_, _, rfl, p1⟩, ⟨_, _, rfl, p3⟩, ⟨_, _, rfl, p5⟩⟩
theorem Und.lt {a : Option Addr} {n c s g : Nat} (h : Und a c s) (hg : ob (.slice a n c) = some g) : g < s := by
  rcases h with rfl | ⟨g', rfl, h⟩
  · rw [ob_zero] at hg; cases hg
  · by_cases hc : c = 0
    · subst hc; rw [ob_zero] at hg; cases hg
    · rw [ob_some (by omega)] at hg; cases hg; exact h
theorem RS.start (W0 : World) : RS W0 (((W0.alloc (.cells #[.slice none 0 0, .slice none 0 0, .int .i64 0, .bool false] 67)).alloc (.cells #[.slice none 0 0, .slice none 0 0, .int .i64 0, .bool false] 70)).alloc (.cells #[.slice none 0 0, .slice none 0 0, .int .i64 0, .bool false] 73)) W0.heap.size 0 0 0 0 0 0 := by
  have h1 : BkW3 (W0.alloc (.cells #[.slice none 0 0, .slice none 0 0, .int .i64 0, .bool false] 67)) W0.heap.size 0 0 := ⟨_, _, [], 0, .inl rfl, Nat.le_refl _, BW.book_new W0, fun e he => by simp at he⟩
  have b1 := box_below W0 (.cells #[.slice none 0 0, .slice none 0 0, .int .i64 0, .bool false] 67)
  obtain ⟨W1, hW1⟩ : ∃ W1, W1 = W0.alloc (.cells #[.slice none 0 0, .slice none 0 0, .int .i64 0, .bool false] 67) := ⟨_, rfl⟩
  have hs1 : W1.heap.size = W0.heap.size + 1 := by rw [hW1]; simp
  rw [← hW1] at h1 b1 ⊢
  have h2 : BkM3 (W1.alloc (.cells #[.slice none 0 0, .slice none 0 0, .int .i64 0, .bool false] 70)) W0.heap.size 0 0 := ⟨_, _, [], 0, .inl rfl, Nat.le_refl _, by rw [← hs1]; exact BM.book_new W1, fun e he => by simp at he⟩
  have b2 := box_below W1 (.cells #[.slice none 0 0, .slice none 0 0, .int .i64 0, .bool false] 70)
  obtain ⟨W2, hW2⟩ : ∃ W2, W2 = W1.alloc (.cells #[.slice none 0 0, .slice none 0 0, .int .i64 0, .bool false] 70) := ⟨_, rfl⟩
  have hs2 : W2.heap.size = W0.heap.size + 2 := by rw [hW2]; simp [hs1]
  rw [← hW2] at h2 b2 ⊢
  have h3 : BkS3 (W2.alloc (.cells #[.slice none 0 0, .slice none 0 0, .int .i64 0, .bool false] 73)) W0.heap.size 0 0 := ⟨_, _, [], 0, .inl rfl, Nat.le_refl _, by rw [← hs2]; exact BS.book_new W2, fun e he => by simp at he⟩
  have b3 := box_below W2 (.cells #[.slice none 0 0, .slice none 0 0, .int .i64 0, .bool false] 73)
  have b12 := b1.trans (b2.mono b1.size)
  exact ⟨rfl, b12.trans (b3.mono b12.size), (h1.below b2).below b3, h2.below b3, h3⟩
theorem ovltW {w : World} {base : Nat} {v : Value} {l : List ByteArray} (h : BW.OV w base v l) : ∀ g, ob v = some g → g < w.heap.size := by
  intro g hg
  obtain ⟨_, cur, hc⟩ := h.block hg
  exact (Array.getElem?_eq_some_iff.1 hc).1
theorem ovltM {w : World} {base : Nat} {v : Value} {l : List Mg} (h : BM.OV w base v l) : ∀ g, ob v = some g → g < w.heap.size := by
  intro g hg
  obtain ⟨_, cur, hc⟩ := h.block hg
  exact (Array.getElem?_eq_some_iff.1 hc).1
theorem ovltS {w : World} {base : Nat} {v : Value} {l : List Sp} (h : BS.OV w base v l) : ∀ g, ob v = some g → g < w.heap.size := by
  intro g hg
  obtain ⟨_, cur, hc⟩ := h.block hg
  exact (Array.getElem?_eq_some_iff.1 hc).1
theorem XS.own0 {w : World} {lo s3 s4 zx : Nat} {a0 a1 a2 a3 a4 : Option Addr} {c0 c1 c2 c3 c4 : Nat} {ws : List ByteArray} {ms : List Mg} {A B C : List Sp} (h : XS w lo s3 s4 zx a0 a1 a2 a3 a4 c0 c1 c2 c3 c4 ws ms A B C) : OwnW w lo a0 c0 ws ∧ OwnM w lo a1 c1 ms ∧ OwnS w lo a2 c2 A ∧ OwnS w s3 a3 c3 B ∧ OwnS w s4 a4 c4 C := by
  obtain ⟨_, ⟨_, _, e0, h0⟩, ⟨_, _, e1, h1⟩, ⟨_, _, e2, h2⟩, ⟨_, _, e3, h3⟩, ⟨_, _, e4, h4⟩⟩ := h
  simp only [Value.slice.injEq, true_and] at e0 e1 e2 e3 e4
  obtain ⟨rfl, rfl⟩ := e0
  obtain ⟨rfl, rfl⟩ := e1
  obtain ⟨rfl, rfl⟩ := e2
  obtain ⟨rfl, rfl⟩ := e3
  obtain ⟨rfl, rfl⟩ := e4
  exact ⟨h0, h1, h2, h3, h4⟩
/-- What five appends and a build leave. -/
def QD (lo : Nat) (ws : List ByteArray) (ms : List Mg) (A B C : List Sp) (u : Value) (w : World) : Prop := ∃ a0 c0 a1 c1 a2 c2 a3 c3 a4 c4, u = .agg #[.slice a0 ws.length c0, .slice a1 ms.length c1, .slice a2 A.length c2, .slice a3 B.length c3, .slice a4 C.length c4] ∧ OwnW w lo a0 c0 ws ∧ OwnM w lo a1 c1 ms ∧ OwnS w lo a2 c2 A ∧ OwnS w lo a3 c3 B ∧ OwnS w lo a4 c4 C
theorem QD.below {lo : Nat} {ws : List ByteArray} {ms : List Mg} {A B C : List Sp} {u : Value} {w w' : World} (h : QD lo ws ms A B C u w) (hb : Below w.heap.size w w') : QD lo ws ms A B C u w' := by
  obtain ⟨a0, c0, a1, c1, a2, c2, a3, c3, a4, c4, e, h0, h1, h2, h3, h4⟩ := h
  exact ⟨a0, c0, a1, c1, a2, c2, a3, c3, a4, c4, e, h0.below hb, h1.below hb, h2.below hb, h3.below hb, h4.below hb⟩
/-- A new box for data. -/
def NewD (lo : Nat) (u : Value) (w : World) : Prop := ∃ g, u = .pointer (some ⟨g, 0, none⟩) ∧ lo ≤ g ∧ DBox w g (.slice none 0 0) (.slice none 0 0) (.slice none 0 0) (.slice none 0 0) (.slice none 0 0)
theorem NewD.below {lo : Nat} {u : Value} {w w' : World} (h : NewD lo u w) (hb : Below w.heap.size w w') : NewD lo u w' := by
  obtain ⟨g, h1, h2, h3⟩ := h
  exact ⟨g, h1, h2, h3.below hb h3.lt⟩
theorem XS.store {w : World} {lo s3 s4 zx : Nat} {a0 a1 a2 a3 a4 : Option Addr} {c0 c1 c2 c3 c4 : Nat} {ws : List ByteArray} {ms : List Mg} {A B C : List Sp} {v0 v1 v2 v3 v4 : Value} (hD : DBox w zx v0 v1 v2 v3 v4) (h0 : OwnW w lo a0 c0 ws) (h1 : OwnM w lo a1 c1 ms) (h2 : OwnS w lo a2 c2 A) (h3 : OwnS w s3 a3 c3 B) (h4 : OwnS w s4 a4 c4 C) :
    XS (((((w.setCell ⟨zx, 0, none⟩ (.slice a0 ws.length c0)).setCell ⟨zx, 1, none⟩ (.slice a1 ms.length c1)).setCell ⟨zx, 2, none⟩ (.slice a2 A.length c2)).setCell ⟨zx, 3, none⟩ (.slice a3 B.length c3)).setCell ⟨zx, 4, none⟩ (.slice a4 C.length c4)) lo s3 s4 zx a0 a1 a2 a3 a4 c0 c1 c2 c3 c4 ws ms A B C := by
  have ht : ∀ t, t ≠ 42 → ∀ k, k = zx → ¬ TyB w t k := fun t hne k hk h => by
    subst hk
    exact absurd rfl ((show TyB w 42 k from ⟨_, hD⟩).ne h (fun e => hne e.symm))
  have ho : Only w (((((w.setCell ⟨zx, 0, none⟩ (.slice a0 ws.length c0)).setCell ⟨zx, 1, none⟩ (.slice a1 ms.length c1)).setCell ⟨zx, 2, none⟩ (.slice a2 A.length c2)).setCell ⟨zx, 3, none⟩ (.slice a3 B.length c3)).setCell ⟨zx, 4, none⟩ (.slice a4 C.length c4)) fun k => k = zx :=
    ((((Only.set (S := fun k => k = zx) zx 0 _ rfl).trans (Only.set (S := fun k => k = zx) zx 1 _ rfl) (fun _ _ h => h)).trans (Only.set (S := fun k => k = zx) zx 2 _ rfl) (fun _ _ h => h)).trans (Only.set (S := fun k => k = zx) zx 3 _ rfl) (fun _ _ h => h)).trans (Only.set (S := fun k => k = zx) zx 4 _ rfl) (fun _ _ h => h)
  have hX := ((((hD.s0 (.slice a0 ws.length c0)).s1 (.slice a1 ms.length c1)).s2 (.slice a2 A.length c2)).s3 (.slice a3 B.length c3)).s4 (.slice a4 C.length c4)
  exact ⟨hX, BW.OV.over ⟨_, _, rfl, h0⟩ ho (ht _ (by decide)), BM.OV.over ⟨_, _, rfl, h1⟩ ho (ht _ (by decide)), BS.OV.over ⟨_, _, rfl, h2⟩ ho (ht _ (by decide)), BS.OV.over ⟨_, _, rfl, h3⟩ ho (ht _ (by decide)), BS.OV.over ⟨_, _, rfl, h4⟩ ho (ht _ (by decide))⟩
theorem five_below {w wr : World} {lo zx : Nat} (h : Below lo w wr) (hz : lo ≤ zx) (u0 u1 u2 u3 u4 : Value) : Below lo w (((((wr.setCell ⟨zx, 0, none⟩ u0).setCell ⟨zx, 1, none⟩ u1).setCell ⟨zx, 2, none⟩ u2).setCell ⟨zx, 3, none⟩ u3).setCell ⟨zx, 4, none⟩ u4) :=
  ((((h.setCell (p := ⟨zx, 0, none⟩) hz u0).setCell (p := ⟨zx, 1, none⟩) hz u1).setCell (p := ⟨zx, 2, none⟩) hz u2).setCell (p := ⟨zx, 3, none⟩) hz u3).setCell (p := ⟨zx, 4, none⟩) hz u4
theorem Like.below {w w' : World} (h : Like w w') : Below w.heap.size w w' := ⟨h.os, h.tape, h.output, by rw [h.heap]; exact Nat.le_refl _, fun k _ => by rw [h.heap]⟩
/-- Two books are left. -/
structure RS2 (W0 w : World) (base nm ns sm ss : Nat) : Prop where
  b0 : base = W0.heap.size
  low : Below base W0 w
  bm : BkM3 w base nm sm
  bs : BkS3 w base ns ss
structure RS1 (W0 w : World) (base ns ss : Nat) : Prop where
  b0 : base = W0.heap.size
  low : Below base W0 w
  bs : BkS3 w base ns ss
theorem low_size {W0 w : World} {base : Nat} (b0 : base = W0.heap.size) (h : Below base W0 w) : base ≤ w.heap.size := by
  have := h.size
  omega
theorem RS.apartW {W0 w : World} {base nw nm ns sw sm ss : Nat} (h : RS W0 w base nw nm ns sw sm ss) (h0 : 0 < nw) (hn : nw ≤ 100) :
    Calls Tryd.prog 32 #[.pointer (some ⟨base, 0, none⟩), .func (.func 33) #[] #[]] w fun e w' => e = .returned (.bool true) ∧ RS2 W0 w' base nm ns sm ss := by
  refine (h.bw.apart h0 hn).mono ?_
  rintro e w' ⟨rfl, ho⟩
  exact ⟨rfl, h.b0, h.low.trans (ho.below (fun i hi => hi.1) h.size), h.bm.over ho wrW_notM, h.bs.over ho wrW_notS⟩
theorem RS2.apartM {W0 w : World} {base nm ns sm ss : Nat} (h : RS2 W0 w base nm ns sm ss) (h0 : 0 < nm) (hn : nm ≤ 100) :
    Calls Tryd.prog 34 #[.pointer (some ⟨base + 1, 0, none⟩), .func (.func 35) #[] #[]] w fun e w' => e = .returned (.bool true) ∧ RS1 W0 w' base ns ss := by
  refine (h.bm.apart h0 hn).mono ?_
  rintro e w' ⟨rfl, ho⟩
  exact ⟨rfl, h.b0, h.low.trans (ho.below (fun i hi => hi.1) (low_size h.b0 h.low)), h.bs.over ho wrM_notS⟩
theorem RS1.apartS {W0 w : World} {base ns ss : Nat} (h : RS1 W0 w base ns ss) (h0 : 0 < ns) (hn : ns ≤ 100) :
    Calls Tryd.prog 36 #[.pointer (some ⟨base + 2, 0, none⟩), .func (.func 37) #[] #[]] w fun e w' => e = .returned (.bool true) ∧ Below W0.heap.size W0 w' := by
  refine (h.bs.apart h0 hn).mono ?_
  rintro e w' ⟨rfl, ho⟩
  refine ⟨rfl, ?_⟩
  rw [← h.b0]
  exact h.low.trans (ho.below (fun i hi => hi.1) (low_size h.b0 h.low))
set_option maxRecDepth 100000 in
set_option maxHeartbeats 4000000 in
theorem kept_walk (aw am a b c : Option Addr) (cw cm ca cb cc : Nat) (ws : List ByteArray) (ms : List Mg) (A B C : List Sp) (w : World) (hwf : MWf ms) (hn : ws.length ≤ 8796093022208 ∧ ms.length ≤ 5864062014805 ∧ A.length ≤ 17592186044416 ∧ B.length ≤ 17592186044416 ∧ C.length ≤ 17592186044416) (hW : WSP w aw ws) (hM : MSP w am ms) (hA : Lst w a ca A) (hB : Lst w b cb B) (hC : Lst w c cc C) (hG : GL w) :
    Calls Tryd.prog 8 #[.agg #[.slice aw ws.length cw, .slice am ms.length cm, .slice a A.length ca, .slice b B.length cb, .slice c C.length cc]] w fun e w' => e = .returned (.bool true) ∧ Below w.heap.size w w' := by
  have hD := DBox.new w (.slice aw ws.length cw) (.slice am ms.length cm) (.slice a A.length ca) (.slice b B.length cb) (.slice c C.length cc)
  have hb0 := box_below w (.cells #[.slice aw ws.length cw, .slice am ms.length cm, .slice a A.length ca, .slice b B.length cb, .slice c C.length cc] 42)
  have HW : Hid (WSP w aw ws) := hW
  have HM : Hid (MSP w am ms) := hM
  have HA : Hid (Lst w a ca A) := hA
  have HB : Hid (Lst w b cb B) := hB
  have HC : Hid (Lst w c cc C) := hC
  have HG : Hid (GL w) := hG
  clear hW hM hA hB hC hG
  have x0 := hD.c0
  have x1 := hD.c1
  have x2 := hD.c2
  have x3 := hD.c3
  have x4 := hD.c4
  go_enter Tryd.func8, Tryd.ntmps8
  go_wp2_with fail
  obtain ⟨Y, hY⟩ : ∃ Y, Y = w.alloc (.cells #[.slice aw ws.length cw, .slice am ms.length cm, .slice a A.length ca, .slice b B.length cb, .slice c C.length cc] 42) := ⟨_, rfl⟩
  rw [← hY] at hb0 hD ⊢
  clear hY x0 x1 x2 x3 x4
  obtain ⟨z, hz⟩ : ∃ z, z = w.heap.size := ⟨_, rfl⟩
  have HZ : Hid (z = w.heap.size) := hz
  rw [← hz] at hD ⊢
  clear hz
  refine (large_any aw am a b c ws.length cw ms.length cm A.length ca B.length cb C.length cc Y).mono ?_
  rintro e w1 ⟨rfl, hb1⟩
  have HB1 : Hid (Below w.heap.size w w1) := hb0.trans (hb1.mono hb0.size)
  have hD1 := hD.below hb1 hD.lt
  clear hb0 hb1 hD
  cases hL : largeB ms.length with
  | true =>
    have hG1 := HG.out.below HB1.out
    clear hD1
    go_wp2_with fail
    refine (known_any w1 hG1).mono ?_
    rintro e w2 ⟨rfl, hb2⟩
    go_wp2_with fail
    go_ret
    exact ⟨rfl, HB1.out.trans (hb2.mono HB1.out.size)⟩
  | false =>
    have HD1 : Hid (DBox w1 z _ _ _ _ _) := hD1
    have hzw1 := hD1.lt
    clear hD1 hL
    go_upto_region 3 with fail
    have hDz : DBox w1 z _ _ _ _ _ := HD1.out
    obtain ⟨lo, hlo⟩ : ∃ lo, lo = w1.heap.size := ⟨_, rfl⟩
    have HLO : Hid (lo = w1.heap.size) := hlo
    refine wp_region_mono 22 [15, 16, 17, 18, 19, 20, 21, 22, 23, 24, 25, 26, 27, 28, 29, 30, 31, 32, 33, 34, 35, 3] [NewL lo 9,
        qR (.pointer (some ⟨z, 0, none⟩)),
        qR (.slice aw ws.length cw),
        QW lo ws,
        NewL lo 36,
        qR (.pointer (some ⟨z, 1, none⟩)),
        qR (.slice am ms.length cm),
        QM lo ms,
        NewL lo 30,
        qR (.pointer (some ⟨z, 2, none⟩)),
        qR (.slice a A.length ca),
        QS lo A,
        NewL lo 30,
        qR (.pointer (some ⟨z, 3, none⟩)),
        qR (.slice b B.length cb),
        QS lo B,
        NewL lo 30,
        qR (.pointer (some ⟨z, 4, none⟩)),
        qR (.slice c C.length cc),
        QS lo C,
        QD lo ws ms A B C,
        NewD lo] (by kernel_rfl) (by kernel_rfl) rfl rfl ?stab ?steps ?fin
    case stab =>
      intro φ hφ
      simp only [List.mem_cons, List.not_mem_nil, or_false] at hφ
      rcases hφ with rfl | rfl | rfl | rfl | rfl | rfl | rfl | rfl | rfl | rfl | rfl | rfl | rfl | rfl | rfl | rfl | rfl | rfl | rfl | rfl | rfl | rfl
      · exact fun v wx w' hb h => h.below hb
      · exact fun _ _ _ _ h => h
      · exact fun _ _ _ _ h => h
      · exact fun v wx w' hb h => h.below hb
      · exact fun v wx w' hb h => h.below hb
      · exact fun _ _ _ _ h => h
      · exact fun _ _ _ _ h => h
      · exact fun v wx w' hb h => h.below hb
      · exact fun v wx w' hb h => h.below hb
      · exact fun _ _ _ _ h => h
      · exact fun _ _ _ _ h => h
      · exact fun v wx w' hb h => h.below hb
      · exact fun v wx w' hb h => h.below hb
      · exact fun _ _ _ _ h => h
      · exact fun _ _ _ _ h => h
      · exact fun v wx w' hb h => h.below hb
      · exact fun v wx w' hb h => h.below hb
      · exact fun _ _ _ _ h => h
      · exact fun _ _ _ _ h => h
      · exact fun v wx w' hb h => h.below hb
      · exact fun v wx w' hb h => h.below hb
      · exact fun v wx w' hb h => h.below hb
    case steps =>
      have hBx : ∀ wx, Below w1.drew.heap.size w1.drew wx → Below w1.heap.size w1 wx := fun wx hb => ⟨hb.os, hb.tape, hb.output, hb.size, hb.block⟩
      refine ⟨?_, ?_, ?_, ?_, ?_, ?_, ?_, ?_, ?_, ?_, ?_, ?_, ?_, ?_, ?_, ?_, ?_, ?_, ?_, ?_, ?_, ?_, trivial⟩
      · intro a' he wx hb hd
        refine mStep_val rfl ?_ (box_below wx _) ⟨_, rfl, (by have := (hBx wx hb).size; omega), heap_alloc_new _ _⟩
        simp only [execOp]
        go_simp
      · intro a' he wx hb hd
        have e0 : a'.eval (.tmp 1) = .pointer (some ⟨z, 0, none⟩) := he.get rfl
        refine mStep_read rfl ?_ rfl
        simp only [execOp, e0]
        go_simp
      · intro a' he wx hb hd
        have e0 : a'.eval (.tmp 16) = .pointer (some ⟨z, 0, none⟩) := hd 1 rfl _ _ rfl rfl
        have c := (hDz.below (hBx wx hb) hDz.lt).c0
        refine mStep_read rfl ?_ rfl
        simp only [execOp, e0]
        go_simp
      · intro a' he wx hb hd
        have e0 := hd 0 rfl _ _ rfl rfl
        have e1 : a'.eval (.tmp 17) = .slice aw ws.length cw := hd 2 rfl _ _ rfl rfl
        obtain ⟨v, W', hr, hb', hq⟩ := app_newW e0 (by have := (hBx wx hb).size; omega) aw cw ws (by omega) ((HW.out.below HB1.out).below (hBx wx hb))
        refine mStep_val rfl ?_ hb' hq
        simp only [execOp, resolve, invoke, builtin, Sem.run_bind, Sem.run_pure, Result.andThen_ok, List.map_toArray, List.map_cons, List.map_nil, e1, hr]
      · intro a' he wx hb hd
        refine mStep_val rfl ?_ (box_below wx _) ⟨_, rfl, (by have := (hBx wx hb).size; omega), heap_alloc_new _ _⟩
        simp only [execOp]
        go_simp
      · intro a' he wx hb hd
        have e0 : a'.eval (.tmp 1) = .pointer (some ⟨z, 0, none⟩) := he.get rfl
        refine mStep_read rfl ?_ rfl
        simp only [execOp, e0]
        go_simp
      · intro a' he wx hb hd
        have e0 : a'.eval (.tmp 20) = .pointer (some ⟨z, 1, none⟩) := hd 5 rfl _ _ rfl rfl
        have c := (hDz.below (hBx wx hb) hDz.lt).c1
        refine mStep_read rfl ?_ rfl
        simp only [execOp, e0]
        go_simp
      · intro a' he wx hb hd
        have e0 := hd 4 rfl _ _ rfl rfl
        have e1 : a'.eval (.tmp 21) = .slice am ms.length cm := hd 6 rfl _ _ rfl rfl
        obtain ⟨v, W', hr, hb', hq⟩ := app_newM e0 (by have := (hBx wx hb).size; omega) am cm ms (by omega) ((HM.out.below HB1.out).below (hBx wx hb))
        refine mStep_val rfl ?_ hb' hq
        simp only [execOp, resolve, invoke, builtin, Sem.run_bind, Sem.run_pure, Result.andThen_ok, List.map_toArray, List.map_cons, List.map_nil, e1, hr]
      · intro a' he wx hb hd
        refine mStep_val rfl ?_ (box_below wx _) ⟨_, rfl, (by have := (hBx wx hb).size; omega), heap_alloc_new _ _⟩
        simp only [execOp]
        go_simp
      · intro a' he wx hb hd
        have e0 : a'.eval (.tmp 1) = .pointer (some ⟨z, 0, none⟩) := he.get rfl
        refine mStep_read rfl ?_ rfl
        simp only [execOp, e0]
        go_simp
      · intro a' he wx hb hd
        have e0 : a'.eval (.tmp 24) = .pointer (some ⟨z, 2, none⟩) := hd 9 rfl _ _ rfl rfl
        have c := (hDz.below (hBx wx hb) hDz.lt).c2
        refine mStep_read rfl ?_ rfl
        simp only [execOp, e0]
        go_simp
      · intro a' he wx hb hd
        have e0 := hd 8 rfl _ _ rfl rfl
        have e1 : a'.eval (.tmp 25) = .slice a A.length ca := hd 10 rfl _ _ rfl rfl
        obtain ⟨v, W', hr, hb', hq⟩ := app_newS e0 (by have := (hBx wx hb).size; omega) a ca A (by omega) ((HA.out.below HB1.out).below (hBx wx hb)).at'
        refine mStep_val rfl ?_ hb' hq
        simp only [execOp, resolve, invoke, builtin, Sem.run_bind, Sem.run_pure, Result.andThen_ok, List.map_toArray, List.map_cons, List.map_nil, e1, hr]
      · intro a' he wx hb hd
        refine mStep_val rfl ?_ (box_below wx _) ⟨_, rfl, (by have := (hBx wx hb).size; omega), heap_alloc_new _ _⟩
        simp only [execOp]
        go_simp
      · intro a' he wx hb hd
        have e0 : a'.eval (.tmp 1) = .pointer (some ⟨z, 0, none⟩) := he.get rfl
        refine mStep_read rfl ?_ rfl
        simp only [execOp, e0]
        go_simp
      · intro a' he wx hb hd
        have e0 : a'.eval (.tmp 28) = .pointer (some ⟨z, 3, none⟩) := hd 13 rfl _ _ rfl rfl
        have c := (hDz.below (hBx wx hb) hDz.lt).c3
        refine mStep_read rfl ?_ rfl
        simp only [execOp, e0]
        go_simp
      · intro a' he wx hb hd
        have e0 := hd 12 rfl _ _ rfl rfl
        have e1 : a'.eval (.tmp 29) = .slice b B.length cb := hd 14 rfl _ _ rfl rfl
        obtain ⟨v, W', hr, hb', hq⟩ := app_newS e0 (by have := (hBx wx hb).size; omega) b cb B (by omega) ((HB.out.below HB1.out).below (hBx wx hb)).at'
        refine mStep_val rfl ?_ hb' hq
        simp only [execOp, resolve, invoke, builtin, Sem.run_bind, Sem.run_pure, Result.andThen_ok, List.map_toArray, List.map_cons, List.map_nil, e1, hr]
      · intro a' he wx hb hd
        refine mStep_val rfl ?_ (box_below wx _) ⟨_, rfl, (by have := (hBx wx hb).size; omega), heap_alloc_new _ _⟩
        simp only [execOp]
        go_simp
      · intro a' he wx hb hd
        have e0 : a'.eval (.tmp 1) = .pointer (some ⟨z, 0, none⟩) := he.get rfl
        refine mStep_read rfl ?_ rfl
        simp only [execOp, e0]
        go_simp
      · intro a' he wx hb hd
        have e0 : a'.eval (.tmp 32) = .pointer (some ⟨z, 4, none⟩) := hd 17 rfl _ _ rfl rfl
        have c := (hDz.below (hBx wx hb) hDz.lt).c4
        refine mStep_read rfl ?_ rfl
        simp only [execOp, e0]
        go_simp
      · intro a' he wx hb hd
        have e0 := hd 16 rfl _ _ rfl rfl
        have e1 : a'.eval (.tmp 33) = .slice c C.length cc := hd 18 rfl _ _ rfl rfl
        obtain ⟨v, W', hr, hb', hq⟩ := app_newS e0 (by have := (hBx wx hb).size; omega) c cc C (by omega) ((HC.out.below HB1.out).below (hBx wx hb)).at'
        refine mStep_val rfl ?_ hb' hq
        simp only [execOp, resolve, invoke, builtin, Sem.run_bind, Sem.run_pure, Result.andThen_ok, List.map_toArray, List.map_cons, List.map_nil, e1, hr]
      · intro a' he wx hb hd
        have e0 := hd 3 rfl _ _ rfl rfl
        have e1 := hd 7 rfl _ _ rfl rfl
        have e2 := hd 11 rfl _ _ rfl rfl
        have e3 := hd 15 rfl _ _ rfl rfl
        have e4 := hd 19 rfl _ _ rfl rfl
        obtain ⟨a0, c0, e0, h0⟩ := e0
        obtain ⟨a1, c1, e1, h1⟩ := e1
        obtain ⟨a2, c2, e2, h2⟩ := e2
        obtain ⟨a3, c3, e3, h3⟩ := e3
        obtain ⟨a4, c4, e4, h4⟩ := e4
        refine mStep_read rfl ?_ ⟨a0, c0, a1, c1, a2, c2, a3, c3, a4, c4, rfl, h0, h1, h2, h3, h4⟩
        simp [execOp, e0, e1, e2, e3, e4]
        go_simp
      · intro a' he wx hb hd
        refine mStep_val rfl ?_ (box_below wx _) ⟨_, rfl, (by have := (hBx wx hb).size; omega), heap_alloc_new _ _⟩
        simp only [execOp]
        go_simp
    case fin =>
      rintro wx hb u15 p15 _ rfl _ rfl u18 p18 u19 p19 _ rfl _ rfl u22 p22 u23 p23 _ rfl _ rfl u26 p26 u27 p27 _ rfl _ rfl u30 p30 u31 p31 _ rfl _ rfl u34 p34 u35 p35 u3 p3
      clear p15 p18 p19 p22 p23 p26 p27 p30 p31 p34
      obtain ⟨gE, rfl, hgE, hE⟩ := p3
      obtain ⟨a0, c0, a1, c1, a2, c2, a3, c3, a4, c4, rfl, q0, q1, q2, q3, q4⟩ := p35
      have hbx : Below w1.heap.size w1 wx := ⟨hb.os, hb.tape, hb.output, hb.size, hb.block⟩
      rw [← hlo] at hbx hzw1
      have f0 := fun j => unfrozen_of_block hE j
      have e0 := hE.c0
      have e1 := hE.c1
      have e2 := hE.c2
      have e3 := hE.c3
      have e4 := hE.c4
      have hX4 := XS.store hE q0 q1 q2 q3 q4
      have hB4 := five_below hbx hgE (.slice a0 ws.length c0) (.slice a1 ms.length c1) (.slice a2 A.length c2) (.slice a3 B.length c3) (.slice a4 C.length c4)
      have hgx := hE.lt
      have hbsz := hbx.size
      clear hb hbx hE q0 q1 q2 q3 q4 hDz hlo
      simp only [finV, Act.put, List.setIfInBounds_toArray, List.set_cons_succ, List.set_cons_zero, List.drop_succ_cons, List.drop_zero]
      go_upto_region 4 with fail
      obtain ⟨W4, hW4⟩ : ∃ W4, W4 = (((((wx.setCell ⟨gE, 0, none⟩ (.slice a0 ws.length c0)).setCell ⟨gE, 1, none⟩ (.slice a1 ms.length c1)).setCell ⟨gE, 2, none⟩ (.slice a2 A.length c2)).setCell ⟨gE, 3, none⟩ (.slice a3 B.length c3)).setCell ⟨gE, 4, none⟩ (.slice a4 C.length c4)) := ⟨_, rfl⟩
      have hsz4 : W4.heap.size = wx.heap.size := by rw [hW4]; simp
      rw [← hW4] at hX4 hB4 ⊢
      clear hW4 e0 e1 e2 e3 e4 f0
      have hloz : w.heap.size ≤ lo := by have := HZ.out; omega
      have hBw4 : Below w.heap.size w W4 := HB1.out.trans (hB4.mono hloz)
      have hD4 := HD1.out.below hB4 hzw1
      have HX4 : Hid (XS W4 lo lo lo gE a0 a1 a2 a3 a4 c0 c1 c2 c3 c4 ws ms A B C) := hX4
      have x0 := hX4.box.c0
      have x1 := hX4.box.c1
      have x2 := hX4.box.c2
      have x3 := hX4.box.c3
      have x4 := hX4.box.c4
      obtain ⟨o0, o1, o2, o3, o4⟩ := hX4.own0
      have HB4 : Hid (Below w.heap.size w W4) := hBw4
      have HD4 : Hid (DBox W4 z _ _ _ _ _) := hD4
      have hO := keepOf_any a0 a1 a2 a3 a4 c0 c1 c2 c3 c4 ws ms A B C W4 hwf (by omega) o0.row.sp o1.row.sp ⟨o2.le, o2.cap, o2.row.sp⟩ ⟨o3.le, o3.cap, o3.row.sp⟩ ⟨o4.le, o4.cap, o4.row.sp⟩ (HG.out.below hBw4)
      clear hX4 hB4 hD4 hBw4 HB1 HD1 o0 o1 o2 o3 o4 hgx hbsz hsz4
      go_wp2_with fail
      refine hO.mono ?_
      rintro e w5 ⟨p, rfl, hp1, hp2, hb5⟩
      have hB5 := HB4.out.trans (hb5.mono HB4.out.size)
      have HB5 : Hid (Below w.heap.size w w5) := hB5
      clear hO x0 x1 x2 x3 x4
      cases hU : upB ws ms A B C with
      | false =>
        obtain rfl := hp2 hU
        have hG5 := HG.out.below hB5
        clear hp1 hp2 hU hb5 hB5
        go_wp2_with fail
        refine (known_any w5 hG5).mono ?_
        rintro e w6 ⟨rfl, hb6⟩
        go_wp2_with fail
        go_ret
        exact ⟨rfl, HB5.out.trans (hb6.mono HB5.out.size)⟩
      | true =>
        obtain ⟨g, rfl, hMd⟩ := hp1 hU
        have hK := upB_ok hU
        have hf := upB_few hU
        have HK : Hid (MOk ws ms A B C) := hK
        have hw3 : ws.length ≤ 300 := by rw [hK.nm]; exact hf
        have hA5 := hK.la
        have hB5' := hK.lb
        have hC5 := hK.lc
        have hX5 := HX4.out.below hb5
        have x0 := hX5.box.c0
        have x1 := hX5.box.c1
        have x2 := hX5.box.c2
        have x3 := hX5.box.c3
        have x4 := hX5.box.c4
        obtain ⟨o0, o1, o2, o3, o4⟩ := HX4.out.own0
        have hSp := spoil_any a0 a1 a2 a3 a4 ws.length ms.length A.length B.length C.length c0 c1 c2 c3 c4 lo W4.heap.size w5 (by omega) hb5.size ((o0.room (Nat.le_refl _)).below hb5) ((o1.room (Nat.le_refl _)).below hb5) ((o2.room (Nat.le_refl _)).below hb5) ((o3.room (Nat.le_refl _)).below hb5) ((o4.room (Nat.le_refl _)).below hb5)
        have hD5 := HD4.out.below hb5 HD4.out.lt
        have HD5 : Hid (DBox w5 z _ _ _ _ _) := hD5
        have HMd : Hid (ModelAt w5 W4.heap.size g ws ms A B C) := hMd
        have hlo5 : lo ≤ w5.heap.size := by
          have h1 := HD4.out.lt
          have h2 := hb5.size
          have h3 := HX4.out.box.lt
          omega
        clear hp1 hp2 hU hK hMd hX5 hD5 o0 o1 o2 o3 o4 hb5 hB5
        go_wp2_with fail
        refine hSp.mono ?_
        rintro e w6 ⟨rfl, ho6⟩
        have hM6 := HMd.out.from_ ho6.from_
        have hlb6 : Below lo w5 w6 := ho6.below (fun i hi => hi.1) hlo5
        have hB6 := HB5.out.trans (hlb6.mono hloz)
        have hD6 := HD5.out.below hlb6 hzw1
        have hR6 := RS.start w6
        have HM6 : Hid (ModelAt w6 W4.heap.size g ws ms A B C) := hM6
        have HB6 : Hid (Below w.heap.size w w6) := hB6
        have HD6 : Hid (DBox w6 z _ _ _ _ _) := hD6
        clear hSp x0 x1 x2 x3 x4 HB5 HD5 HMd HB4 HD4 HX4 hM6 hB6 hD6 ho6 hlb6 hlo5
        obtain ⟨base, hbase⟩ : ∃ base, base = w6.heap.size := ⟨_, rfl⟩
        have HBS : Hid (base = w6.heap.size) := hbase
        obtain ⟨V, hV⟩ : ∃ V, V = (((w6.alloc (.cells #[.slice none 0 0, .slice none 0 0, .int .i64 0, .bool false] 67)).alloc (.cells #[.slice none 0 0, .slice none 0 0, .int .i64 0, .bool false] 70)).alloc (.cells #[.slice none 0 0, .slice none 0 0, .int .i64 0, .bool false] 73)) := ⟨_, rfl⟩
        have HV : Hid (V = (((w6.alloc (.cells #[.slice none 0 0, .slice none 0 0, .int .i64 0, .bool false] 67)).alloc (.cells #[.slice none 0 0, .slice none 0 0, .int .i64 0, .bool false] 70)).alloc (.cells #[.slice none 0 0, .slice none 0 0, .int .i64 0, .bool false] 73))) := hV
        rw [← hV, ← hbase] at hR6
        clear hV hbase
        go_wp2_with fail
        rw [← HV.out, ← HBS.out]
        rw [show base + 1 + 1 = base + 2 from rfl]
        clear HV
        go_loopw [10] (fun v wr => ∃ i : Nat, i ≤ 2 ∧ v = .int .i64 (i : Nat) ∧ ∃ sw sm ss, RS w6 wr base i i (3 * i) sw sm ss) (fun v _ => 2 - (intOf v).toNat)
        case atStart => exact ⟨0, Nat.zero_le _, rfl, 0, 0, 0, hR6⟩
        case round =>
          clear hR6
          obtain ⟨i, hi, rfl, sw, sm, ss, hR⟩ := hrel
          have hR := hR.up
          have hlow : Below w6.heap.size w6 wr := by rw [← HBS.out]; exact hR.low
          have hbsl : base ≤ wr.heap.size := hR.size
          by_cases hlt : i < 2
          · have hDt := data_any g W4.heap.size ws ms A B C wr HK.out (HM6.out.below hlow)
            have HR : Hid (RS w6 wr base i i (3 * i) wr.heap.size wr.heap.size wr.heap.size) := hR
            clear hR hlow
            go_wp2_with fail
            refine hDt.mono ?_
            rintro e w7 ⟨y0, k0, y1, k1, y2, k2, y3, k3, y4, k4, rfl, hO, hb7⟩
            have hE := DBox.new w7 (.slice y0 ws.length k0) (.slice y1 ms.length k1) (.slice y2 A.length k2) (.slice y3 B.length k3) (.slice y4 C.length k4)
            have hbx := box_below w7 (.cells #[.slice y0 ws.length k0, .slice y1 ms.length k1, .slice y2 A.length k2, .slice y3 B.length k3, .slice y4 C.length k4] 42)
            obtain ⟨s3, s4, e1', e2', p2, p4, hX8⟩ := (hO.below hbx).xs hE
            have h8R := (HR.out.below hb7).below hbx
            clear hDt hO hb7 hE hbx HR
            go_upto_region 15 with fail
            obtain ⟨w8, hw8⟩ : ∃ w8, w8 = w7.alloc (.cells #[.slice y0 ws.length k0, .slice y1 ms.length k1, .slice y2 A.length k2, .slice y3 B.length k3, .slice y4 C.length k4] 42) := ⟨_, rfl⟩
            rw [← hw8] at hX8 h8R ⊢
            clear hw8
            obtain ⟨zx, hzx⟩ : ∃ zx, zx = w7.heap.size := ⟨_, rfl⟩
            rw [← hzx] at hX8 ⊢
            clear hzx
            obtain ⟨sl, hsl⟩ : ∃ sl, sl = wr.heap.size := ⟨_, rfl⟩
            rw [← hsl] at hX8 h8R e1' hbsl
            clear hsl
            have hlow : Below w6.heap.size w6 w8 := by rw [← HBS.out]; exact h8R.low
            have hw8 : Below w.heap.size w w8 := HB6.out.trans (hlow.mono HB6.out.size)
            have hD8 := HD6.out.below hlow HD6.out.lt
            obtain ⟨o0, o1, o2, o3, o4⟩ := hX8.own0
            have hSm := keepSame_any y0 y1 y2 y3 y4 aw am a b c k0 k1 k2 k3 k4 cw cm ca cb cc ws ms A B C w8 (by omega) o0.row.sp o1.row.sp o2.row.sp o3.row.sp o4.row.sp (HW.out.below hw8) (HM.out.below hw8) (HA.out.below hw8).at' (HB.out.below hw8).at' (HC.out.below hw8).at'
            have x0 := hX8.box.c0
            have x1 := hX8.box.c1
            have x2 := hX8.box.c2
            have x3 := hX8.box.c3
            have x4 := hX8.box.c4
            have z0 := hD8.c0
            have z1 := hD8.c1
            have z2 := hD8.c2
            have z3 := hD8.c3
            have z4 := hD8.c4
            have HX8 : Hid (XS w8 sl s3 s4 zx y0 y1 y2 y3 y4 k0 k1 k2 k3 k4 ws ms A B C) := hX8
            have H8R : Hid (RS w6 w8 base i i (3 * i) sl sl sl) := h8R
            clear o0 o1 o2 o3 o4 hX8 h8R hD8 hlow hw8
            go_wp2_with fail
            refine hSm.mono ?_
            rintro e w9 ⟨rfl, hb9⟩
            have hX9 := HX8.out.below hb9
            have h9R := H8R.out.below hb9
            clear hSm x0 x1 x2 x3 x4 z0 z1 z2 z3 z4 HX8 H8R hb9
            have hKp := h9R.keepW (s' := sl + w9.heap.size) (by omega) hX9.o0 (by omega) hbsl (Nat.le_add_right _ _) (fun g hg => by have := ovltW hX9.o0 g hg; omega)
            have x0 := hX9.box.c0
            have HX9 : Hid (XS w9 sl s3 s4 zx y0 y1 y2 y3 y4 k0 k1 k2 k3 k4 ws ms A B C) := hX9
            clear hX9 h9R
            go_wp2_with fail
            refine hKp.mono ?_
            rintro e w10 ⟨rfl, h10R, ho⟩
            have hX10 := HX9.out.over ho wkW_tys
            clear hKp x0 HX9 ho
            have hKp := h10R.keepM (s' := sl + w10.heap.size) (by omega) hX10.o1 (by omega) hbsl (Nat.le_add_right _ _) (fun g hg => by have := ovltM hX10.o1 g hg; omega)
            have x1 := hX10.box.c1
            have HX10 : Hid (XS w10 sl s3 s4 zx y0 y1 y2 y3 y4 k0 k1 k2 k3 k4 ws ms A B C) := hX10
            clear hX10 h10R
            go_wp2_with fail
            refine hKp.mono ?_
            rintro e w11 ⟨rfl, h11R, ho⟩
            have hX11 := HX10.out.over ho wkM_tys
            clear hKp x1 HX10 ho
            have hKp := h11R.keepS (s' := s3) (by omega) hX11.o2 (by omega) hbsl e1' (fun g hg => p2.lt hg)
            have x2 := hX11.box.c2
            have HX11 : Hid (XS w11 sl s3 s4 zx y0 y1 y2 y3 y4 k0 k1 k2 k3 k4 ws ms A B C) := hX11
            clear hX11 h11R
            go_wp2_with fail
            refine hKp.mono ?_
            rintro e w12 ⟨rfl, h12R, ho⟩
            have hX12 := HX11.out.over ho wkS_tys
            clear hKp x2 HX11 ho
            have hKp := h12R.keepS (s' := s4) (by omega) hX12.o3 (by omega) (by omega) e2' (fun g hg => p4.lt hg)
            have x3 := hX12.box.c3
            have HX12 : Hid (XS w12 sl s3 s4 zx y0 y1 y2 y3 y4 k0 k1 k2 k3 k4 ws ms A B C) := hX12
            clear hX12 h12R
            go_wp2_with fail
            refine hKp.mono ?_
            rintro e w13 ⟨rfl, h13R, ho⟩
            have hX13 := HX12.out.over ho wkS_tys
            clear hKp x3 HX12 ho
            have hKp := h13R.keepS (s' := s4 + w13.heap.size) (by omega) hX13.o4 (by omega) (by omega) (Nat.le_add_right _ _) (fun g hg => by have := ovltS hX13.o4 g hg; omega)
            have x4 := hX13.box.c4
            have HX13 : Hid (XS w13 sl s3 s4 zx y0 y1 y2 y3 y4 k0 k1 k2 k3 k4 ws ms A B C) := hX13
            clear hX13 h13R
            go_wp2_with fail
            refine hKp.mono ?_
            rintro e w14 ⟨rfl, h14R, ho⟩
            have hX14 := HX13.out.over ho wkS_tys
            clear hKp x4 HX13 ho
            have H14 : Hid (RS w6 w14 base (i + 1) (i + 1) (3 * i + 1 + 1 + 1) (sl + w9.heap.size) (sl + w10.heap.size) (s4 + w13.heap.size)) := h14R
            clear h14R hX14 p2 p4 e1' e2' hbsl
            go_wp2_with fail
            go_roundw
            case rel => exact ⟨i + 1, by omega, by go_num, _, _, _, H14.out⟩
            case measure => simp only [intOf]; omega
          · obtain rfl : i = 2 := by omega
            have HR : Hid (RS w6 wr base 2 2 6 wr.heap.size wr.heap.size wr.heap.size) := hR
            have HL6 : Hid (z < w6.heap.size) := HD6.out.lt
            have HA1 : Hid (∀ wx, Like wr wx → Calls Tryd.prog 32 #[.pointer (some ⟨base, 0, none⟩), .func (.func 33) #[] #[]] wx fun e w' => e = .returned (.bool true) ∧ RS2 w6 w' base 2 6 wr.heap.size wr.heap.size) := fun wx hl => (HR.out.below hl.below).apartW (by omega) (by omega)
            have HDt : Hid (∀ wx, Below w6.heap.size w6 wx → Calls Tryd.prog 23 #[.pointer (some ⟨g, 0, none⟩)] wx fun e w' => ∃ a0 c0 a1 c1 a2 c2 a3 c3 a4 c4, e = .returned (.agg #[.slice a0 ws.length c0, .slice a1 ms.length c1, .slice a2 A.length c2, .slice a3 B.length c3, .slice a4 C.length c4]) ∧ OwnD w' wx.heap.size a0 c0 a1 c1 a2 c2 a3 c3 a4 c4 ws ms A B C ∧ Below wx.heap.size wx w') := fun wx hb => data_any g W4.heap.size ws ms A B C wx HK.out (HM6.out.below hb)
            have HSm : Hid (∀ wx lx y0 k0 y1 k1 y2 k2 y3 k3 y4 k4, Below w6.heap.size w6 wx → OwnD wx lx y0 k0 y1 k1 y2 k2 y3 k3 y4 k4 ws ms A B C → Calls Tryd.prog 22 #[.agg #[.slice y0 ws.length k0, .slice y1 ms.length k1, .slice y2 A.length k2, .slice y3 B.length k3, .slice y4 C.length k4], .agg #[.slice aw ws.length cw, .slice am ms.length cm, .slice a A.length ca, .slice b B.length cb, .slice c C.length cc]] wx fun e w' => e = .returned (.bool true) ∧ Below wx.heap.size wx w') := by
              rintro wx lx y0 k0 y1 k1 y2 k2 y3 k3 y4 k4 hb ⟨o0, o1, s3, s4, e1, e2, o2, o2', o3, o3', o4⟩
              have hw : Below w.heap.size w wx := HB6.out.trans (hb.mono HB6.out.size)
              exact keepSame_any y0 y1 y2 y3 y4 aw am a b c k0 k1 k2 k3 k4 cw cm ca cb cc ws ms A B C wx (by omega) o0.row.sp o1.row.sp o2.row.sp o3.row.sp o4.row.sp (HW.out.below hw) (HM.out.below hw) (HA.out.below hw).at' (HB.out.below hw).at' (HC.out.below hw).at'
            have HKn : Hid (∀ wx, Below w6.heap.size w6 wx → Calls Tryd.prog 14 #[] wx fun e w' => e = .returned (.bool true) ∧ Below wx.heap.size wx w') := fun wx hb => known_any wx (HG.out.below (HB6.out.trans (hb.mono HB6.out.size)))
            clear hR hbsl hlow
            go_upto_region 22 with fail
            go_region_with (first
              | (go_at_call 32; refine (HA1.out _ (by first | exact Like.refl _ | exact (Like.refl _).drew)).mono ?_; rintro e v1 ⟨rfl, r1⟩)
              | (go_at_call 34; refine (r1.apartM (by omega) (by omega)).mono ?_; rintro e v2 ⟨rfl, r2⟩)
              | (go_at_call 36; refine (r2.apartS (by omega) (by omega)).mono ?_; rintro e v3 ⟨rfl, r3⟩; have hd3 := HD6.out.below r3 HL6.out; have d0 := hd3.c0; have d1 := hd3.c1; have d2 := hd3.c2; have d3 := hd3.c3; have d4 := hd3.c4; clear hd3)
              | (go_at_call 23; refine (HDt.out _ r3).mono ?_; rintro e v4 ⟨y0, k0, y1, k1, y2, k2, y3, k3, y4, k4, rfl, hO, hb4⟩; have r4 := r3.trans (hb4.mono r3.size); have hd4 := HD6.out.below r4 HL6.out; have d5 := hd4.c0; have d6 := hd4.c1; have d7 := hd4.c2; have d8 := hd4.c3; have d9 := hd4.c4; clear hd4)
              | (go_at_call 22; refine (HSm.out _ _ _ _ _ _ _ _ _ _ _ _ r4 hO).mono ?_; rintro e v5 ⟨rfl, hb5⟩; have r5 := r4.trans (hb5.mono r4.size))
              | (go_at_call 14; refine (HKn.out _ r5).mono ?_; rintro e v6 ⟨rfl, hb6⟩; have r6 := r5.trans (hb6.mono r5.size)))
            all_goals
              go_wp2_with fail
              go_ret
              exact ⟨rfl, HB6.out.trans (r6.mono HB6.out.size)⟩
end Go.Proofs.YtlnebbciefdpoaaDoor
