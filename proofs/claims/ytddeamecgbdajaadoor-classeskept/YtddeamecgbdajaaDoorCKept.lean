/- ClassesKept: the walk. -/
import Derived.Test.YtddeamecgbdajaaDoorCKnown
import Derived.Test.YtddeamecgbdajaaDoorCOpen
import Derived.Lib.QuietBelow
namespace Go.Proofs.YtddeamecgbdajaaDoor
open Go.RowKit Go.Sort Go.Joins
/-- Appending a list to a new, empty one. -/
theorem app_any (a : Option Addr) (cap : Nat) (l : List Sp) (w : World) (hlen : l.length ≤ 17592186044416) (h : SPS w a l) :
    ∃ a' c' w', (Builtin.append_ #[30, 30] 30 #[.slice (some ⟨w.heap.size, 0, none⟩) 0 0, .slice a l.length cap]).run Tryd.prog (w.alloc (.cells #[] 29)) = .ok (.slice a' l.length c') w' ∧ OwnL w' w.heap.size a' c' l ∧ Below w.heap.size w w' := by
  have hb : Below w.heap.size w (w.alloc (.cells #[] 29)) := (Below.refl _ w).alloc (Nat.le_refl _) _
  cases a with
  | none =>
    have hl : l = [] := by
      rcases h with h | ⟨b, off, h, _⟩
      · exact h
      · cases h
    subst hl
    obtain ⟨i0, hi, hz0, hz1, hz2⟩ := info_parts info26
    refine ⟨some ⟨w.heap.size, 0, none⟩, 0, _, ?_, ⟨Nat.le_refl _, by omega, .inl rfl⟩, hb⟩
    simp [Builtin.append_, run_underlying Tryd.underlying30, sizeOf, typeInfo, hi, Builtin.lenOf, Builtin.firstCells, storeCells]
  | some x =>
    obtain ⟨i0, hi, hz0, hz1, hz2⟩ := info_parts info26
    have hown : (w.alloc (.cells #[] 29)).ownsRow w.heap.size 29 2 (.slice (some ⟨w.heap.size, 0, none⟩) 0 0) 0 [] :=
      ⟨rfl, .inr ⟨w.heap.size, 0, #[], rfl, Nat.le_refl _, heap_alloc_new w _, Nat.le_refl _, by simp [maxLen], rfl, rfl⟩⟩
    obtain ⟨v', w', h1, h2, h3, h4⟩ := run_append_own (P := Tryd.prog) (w.alloc (.cells #[] 29)) w.heap.size 30 30 29 i0 _ 2 8 Tryd.underlying30 hi hz0 hz1 hz2 rfl (by decide) _ 0 [] hown x l.length cap (cellsS l) (cellsS_length l) (h.below hb).cells (cellsS_one l) (by unfold maxLen; omega) (by omega) (by simp)
    rw [Nat.zero_add, List.nil_append] at h2
    have hB : Below w.heap.size w w' := hb.grown h3 (by simp) (fun k hk => by
      have : k = w.heap.size := by simpa [Value.ownBlock] using hk.symm
      omega)
    rcases h2.2 with ⟨hv, _⟩ | ⟨g, c, cur, hv, hg, hh, hn, hm, hs, ht⟩
    · have := (h4.1 hv).1
      cases this
    · subst hv
      refine ⟨some ⟨g, 0, none⟩, c, w', h1, ⟨hn, by simpa [maxLen] using hm, .inr ⟨g, cur, rfl, hg, hh, fun i y hy => ?_⟩⟩, hB⟩
      have hi : i < l.length := (List.getElem?_eq_some_iff.1 hy).1
      obtain ⟨q0, q1⟩ := cellsS_get _ _ _ hy
      rw [← ht] at q0 q1
      rw [List.getElem?_take_of_lt (by omega)] at q0 q1
      exact ⟨by simpa using q0, by simpa using q1⟩
/-- A block that may be written over, from lo to hi. -/
def WrAt (w : World) (lo hi : Nat) (a : Option Addr) (n : Nat) : Prop := n = 0 ∨ ∃ g cur, a = some ⟨g, 0, none⟩ ∧ lo ≤ g ∧ g < hi ∧ w.heap[g]? = some (.cells cur 29 (0, 0)) ∧ n * 2 ≤ cur.size
theorem OwnL.wr {w : World} {lo : Nat} {a : Option Addr} {c : Nat} {l : List Sp} (h : OwnL w lo a c l) : WrAt w lo w.heap.size a l.length := by
  rcases h.2.2 with h | ⟨g, cur, h1, h2, h3, h4⟩
  · exact .inl (by rw [h]; rfl)
  · refine .inr ⟨g, cur, h1, h2, (Array.getElem?_eq_some_iff.1 h3).1, h3, ?_⟩
    by_cases h0 : l.length = 0
    · omega
    · obtain ⟨x, hx⟩ : ∃ x, l[l.length - 1]? = some x := ⟨_, List.getElem?_eq_getElem (by omega)⟩
      have := (Array.getElem?_eq_some_iff.1 (h4 _ _ hx).2).1
      omega
theorem WrAt.below {w w' : World} {lo hi : Nat} {a : Option Addr} {n : Nat} (h : WrAt w lo hi a n) (hb : Below w.heap.size w w') : WrAt w' lo hi a n := by
  rcases h with h | ⟨g, cur, h1, h2, h3, h4, h5⟩
  · exact .inl h
  · exact .inr ⟨g, cur, h1, h2, h3, (hb.block g (Array.getElem?_eq_some_iff.1 h4).1).trans h4, h5⟩
theorem WrAt.more {w : World} {lo hi hi' : Nat} {a : Option Addr} {n : Nat} (h : WrAt w lo hi a n) (hh : hi ≤ hi') : WrAt w lo hi' a n := by
  rcases h with h | ⟨g, cur, h1, h2, h3, h4⟩
  · exact .inl h
  · exact .inr ⟨g, cur, h1, h2, by omega, h4⟩
theorem WrAt.low {w : World} {lo lo' hi : Nat} {a : Option Addr} {n : Nat} (h : WrAt w lo hi a n) (hh : lo' ≤ lo) : WrAt w lo' hi a n := by
  rcases h with h | ⟨g, cur, h1, h2, h4⟩
  · exact .inl h
  · exact .inr ⟨g, cur, h1, by omega, h4⟩
theorem WrAt.set {w : World} {lo hi : Nat} {a : Option Addr} {n : Nat} (h : WrAt w lo hi a n) (b o : Nat) (v : Value) : WrAt (w.setCell ⟨b, o, none⟩ v) lo hi a n := by
  rcases h with h | ⟨g, cur, h1, h2, h3, h4, h5⟩
  · exact .inl h
  · by_cases e : b = g
    · subst e
      exact .inr ⟨b, _, h1, h2, h3, block_setCell h4 v, by simpa using h5⟩
    · exact .inr ⟨g, cur, h1, h2, h3, (Below.heap_setCell w ⟨b, o, none⟩ v g (fun e' => e e'.symm)).trans h4, h5⟩
/-- What lies while the copies are written over. -/
structure KSt (w wr : World) (lo hi z : Nat) (D : Array Value) (a b c : Option Addr) (g : Nat) (A B C : List Sp) : Prop where
  wa : WrAt wr lo hi a A.length
  wb : WrAt wr lo hi b B.length
  wc : WrAt wr lo hi c C.length
  tab : OwnT wr hi g A B C
  box : wr.heap[z]? = some (.cells D 47 (0, 0))
  bel : Below w.heap.size w wr
theorem KSt.set {w wr : World} {lo hi z : Nat} {D : Array Value} {a b c : Option Addr} {g : Nat} {A B C : List Sp} (h : KSt w wr lo hi z D a b c g A B C) {b0 : Nat} (o : Nat) (v : Value) (h1 : lo ≤ b0) (h2 : b0 < hi) (hz : z < lo) (hw : w.heap.size ≤ lo) :
    KSt w (wr.setCell ⟨b0, o, none⟩ v) lo hi z D a b c g A B C :=
  ⟨h.wa.set _ _ _, h.wb.set _ _ _, h.wc.set _ _ _, h.tab.away h2 _, (Below.heap_setCell wr ⟨b0, o, none⟩ v z (fun e => by have e' : z = b0 := e; omega)).trans h.box, h.bel.setCell (p := ⟨b0, o, none⟩) (by show _ ≤ b0; omega) _⟩
set_option maxRecDepth 100000 in
set_option maxHeartbeats 8000000 in
theorem kept_walk (s0 s1 a b c al : Option Addr) (n0 c0 n1 c1 ca cb cc cl : Nat) (A B C : List Sp) (L : List Int) (w : World) (hzA : A.length ≤ 17592186044416) (hzB : B.length ≤ 17592186044416) (hzC : C.length ≤ 17592186044416) (hLL : L.length ≤ 9223372036854775807) (hA : Lst w a ca A) (hB : Lst w b cb B) (hC : Lst w c cc C) (hL : RNS w al L) (hG : GL w) :
    Calls Tryd.prog 8 #[dtV (.slice s0 n0 c0) (.slice s1 n1 c1) a b c A.length ca B.length cb C.length cc, .slice al L.length cl] w fun e w' => e = .returned (.bool true) ∧ Below w.heap.size w w' := by
  have b0 : Below w.heap.size w (w.alloc (.cells #[.slice s0 n0 c0, .slice s1 n1 c1, .slice a A.length ca, .slice b B.length cb, .slice c C.length cc] 47)) := (Below.refl _ _).alloc (Nat.le_refl _) _
  have hD := heap_alloc_new w (.cells #[.slice s0 n0 c0, .slice s1 n1 c1, .slice a A.length ca, .slice b B.length cb, .slice c C.length cc] 47)
  obtain ⟨a1, k1, w1, e1, o1, hb1⟩ := app_any a ca A _ hzA (hA.at'.below b0)
  rw [World.size_alloc] at e1 o1 hb1
  have hD1 := (hb1.block w.heap.size (by omega)).trans hD
  have B1 : Below w.heap.size w w1 := b0.trans (hb1.mono (by simp))
  have z1 : w.heap.size + 1 ≤ w1.heap.size := by have := hb1.size; simpa using this
  obtain ⟨a2, k2, w2, e2, o2, hb2⟩ := app_any b cb B w1 hzB (hB.at'.below B1)
  have hD2 := (hb2.block w.heap.size (by omega)).trans hD1
  have B2 := B1.trans (hb2.mono B1.size)
  obtain ⟨a3, k3, w3, e3, o3, hb3⟩ := app_any c cc C w2 hzC (hC.at'.below B2)
  have hD3 := (hb3.block w.heap.size (by have := hb2.size; omega)).trans hD2
  have B3 := B2.trans (hb3.mono B2.size)
  have p1 : OwnL w3 (w.heap.size + 1) a1 k1 A := ⟨o1.1, o1.2.1, (o1.2.2.below hb2).below hb3⟩
  have p2 : OwnL w3 (w.heap.size + 1) a2 k2 B := ⟨o2.1, o2.2.1, (o2.2.2.below hb3).low z1⟩
  have p3 : OwnL w3 (w.heap.size + 1) a3 k3 C := ⟨o3.1, o3.2.1, o3.2.2.low (by have := hb2.size; omega)⟩
  have H4 := fun (wx : World) (h1 : Lst wx a1 k1 A) (h2 : Lst wx a2 k2 B) (h3 : Lst wx a3 k3 C) (hg : GL wx) => lawRight_any none none a1 a2 a3 0 0 0 0 k1 k2 k3 A B C wx h1 h2 h3 hg
  have H4 := H4 w3 ⟨p1.1, p1.2.1, p1.2.2.sps⟩ ⟨p2.1, p2.2.1, p2.2.2.sps⟩ ⟨p3.1, p3.2.1, p3.2.2.sps⟩ (hG.below B3)
  have hRg : (checkA A B C).1 = 0 → Rgt A ∧ Rgt B ∧ Rgt C := fun h => (check_pass h).1.rgt (by omega)
  obtain ⟨y, hy⟩ : ∃ y, y = (checkA A B C).1 := ⟨_, rfl⟩
  rw [← hy] at hRg
  simp only [← hy] at H4
  have HRg : Hid (y = 0 → Rgt A ∧ Rgt B ∧ Rgt C) := hRg
  have x12 := cell_of_block hD1 (i := 3)
  have x23 := cell_of_block hD2 (i := 4)
  have HD3 : Hid (w3.heap[w.heap.size]? = some (.cells #[.slice s0 n0 c0, .slice s1 n1 c1, .slice a A.length ca, .slice b B.length cb, .slice c C.length cc] 47 (0, 0))) := hD3
  have w12 := cell_alloc_s x12
  have w23 := cell_alloc_s x23
  have hs3 : w1.heap.size ≤ w2.heap.size ∧ w2.heap.size ≤ w3.heap.size := ⟨hb2.size, hb3.size⟩
  clear hy hRg b0 hD hD1 hD2 hD3 o1 o2 o3 hb1 hb2 hb3 x12 x23 B1 B2
  unfold dtV at H4 ⊢
  go_enter Tryd.func8, Tryd.ntmps8
  go_wp2_with (first
    | (at_builtin; refine wpList_append_run rfl (.tmp 15) (.tmp 17) 30 30 rfl _ _ rfl rfl _ w1 e1 ?_)
    | (at_builtin; refine wpList_append_run rfl (.tmp 19) (.tmp 21) 30 30 rfl _ _ rfl rfl _ w2 e2 ?_)
    | (at_builtin; refine wpList_append_run rfl (.tmp 23) (.tmp 25) 30 30 rfl _ _ rfl rfl _ w3 e3 ?_))
  obtain ⟨z, hz⟩ : ∃ z, z = w.heap.size := ⟨_, rfl⟩
  have HZ : Hid (z = w.heap.size) := hz
  refine H4.mono ?_
  rintro e w4 ⟨p, rfl, hp1, hp2, hb4⟩
  have q1 := p1.wr.below hb4
  have q2 := p2.wr.below hb4
  have q3 := p3.wr.below hb4
  have hD4 := (hb4.block w.heap.size (by omega)).trans HD3.out
  have B4 := B3.trans (hb4.mono B3.size)
  clear H4 p1 p2 p3 e1 e2 e3 w12 w23 HD3 hb4 B3
  rw [← hz] at hD4 q1 q2 q3 z1 ⊢
  clear hz
  by_cases h0 : y = 0
  · obtain ⟨g, rfl, hO⟩ := hp1 h0
    have hR := HRg.out h0
    have hd : decide (y = 0) = true := decide_eq_true h0
    clear hp1 hp2 h0 HRg
    have hK : KSt w w4 (z + 1) w3.heap.size z #[.slice s0 n0 c0, .slice s1 n1 c1, .slice a A.length ca, .slice b B.length cb, .slice c C.length cc] a1 a2 a3 g A B C := ⟨q1, q2, q3, hO, hD4, B4⟩
    clear q1 q2 q3 hO hD4 B4
    obtain ⟨hi, hhi⟩ : ∃ hi, hi = w3.heap.size := ⟨_, rfl⟩
    rw [← hhi] at hK
    clear hhi hs3 z1
    go_wp2_with fail
    go_loopw [11] (fun v wr => ∃ i : Nat, i ≤ A.length ∧ v = .int .i64 (i : Nat) ∧ KSt w wr (z + 1) hi z #[.slice s0 n0 c0, .slice s1 n1 c1, .slice a A.length ca, .slice b B.length cb, .slice c C.length cc] a1 a2 a3 g A B C) (fun v _ => A.length - (intOf v).toNat)
    case atStart => exact ⟨0, Nat.zero_le _, rfl, hK⟩
    case round =>
      clear hK
      obtain ⟨i, hile, rfl, hK⟩ := hrel
      by_cases hlt : i < A.length
      · rcases hK.wa with h | ⟨ga, cur, rfl, hg1, hg2, hh, hsz⟩
        · omega
        · obtain ⟨u0, hu0⟩ : ∃ u, cur[i * 2]? = some u := ⟨_, Array.getElem?_eq_getElem (by omega)⟩
          obtain ⟨u1, hu1⟩ : ∃ u, cur[i * 2 + 1]? = some u := ⟨_, Array.getElem?_eq_getElem (by omega)⟩
          have cx0 := (cell_of_block hh (i * 2)).trans hu0
          have cx1 := (cell_of_block hh (i * 2 + 1)).trans hu1
          have f0 := fun j => unfrozen_of_block hh j
          have hd1 : decide ((i : Int) < (A.length : Int)) = true := decide_eq_true (by omega)
          have HK : Hid (KSt w wr (z + 1) hi z #[.slice s0 n0 c0, .slice s1 n1 c1, .slice a A.length ca, .slice b B.length cb, .slice c C.length cc] (some ⟨ga, 0, none⟩) a2 a3 g A B C) := hK
          clear hh hu0 hu1 hK
          go_wp2_with fail
          exact ⟨⟨i + 1, by omega, by go_num, (HK.out.set (i * 2) _ hg1 hg2 (by omega) (by rw [HZ.out]; omega)).set (i * 2 + 1) _ hg1 hg2 (by omega) (by rw [HZ.out]; omega)⟩, by simp only [intOf]; omega⟩
      · have hie : i = A.length := by omega
        subst hie
        have hd1 : decide ((A.length : Int) < (A.length : Int)) = false := decide_eq_false (by omega)
        go_wp2_with fail
        go_loopw [12] (fun v wr => ∃ i : Nat, i ≤ B.length ∧ v = .int .i64 (i : Nat) ∧ KSt w wr (z + 1) hi z #[.slice s0 n0 c0, .slice s1 n1 c1, .slice a A.length ca, .slice b B.length cb, .slice c C.length cc] a1 a2 a3 g A B C) (fun v _ => B.length - (intOf v).toNat)
        case atStart => exact ⟨0, Nat.zero_le _, rfl, hK⟩
        case round =>
          clear hK
          obtain ⟨i, hile, rfl, hK⟩ := hrel
          by_cases hlt : i < B.length
          · rcases hK.wb with h | ⟨ga, cur, rfl, hg1, hg2, hh, hsz⟩
            · omega
            · obtain ⟨u0, hu0⟩ : ∃ u, cur[i * 2]? = some u := ⟨_, Array.getElem?_eq_getElem (by omega)⟩
              obtain ⟨u1, hu1⟩ : ∃ u, cur[i * 2 + 1]? = some u := ⟨_, Array.getElem?_eq_getElem (by omega)⟩
              have cx0 := (cell_of_block hh (i * 2)).trans hu0
              have cx1 := (cell_of_block hh (i * 2 + 1)).trans hu1
              have f0 := fun j => unfrozen_of_block hh j
              have hd1 : decide ((i : Int) < (B.length : Int)) = true := decide_eq_true (by omega)
              have HK : Hid (KSt w wr (z + 1) hi z #[.slice s0 n0 c0, .slice s1 n1 c1, .slice a A.length ca, .slice b B.length cb, .slice c C.length cc] a1 (some ⟨ga, 0, none⟩) a3 g A B C) := hK
              clear hh hu0 hu1 hK
              go_wp2_with fail
              exact ⟨⟨i + 1, by omega, by go_num, (HK.out.set (i * 2) _ hg1 hg2 (by omega) (by rw [HZ.out]; omega)).set (i * 2 + 1) _ hg1 hg2 (by omega) (by rw [HZ.out]; omega)⟩, by simp only [intOf]; omega⟩
          · have hie : i = B.length := by omega
            subst hie
            have hd1 : decide ((B.length : Int) < (B.length : Int)) = false := decide_eq_false (by omega)
            go_wp2_with fail
            go_loopw [13] (fun v wr => ∃ i : Nat, i ≤ C.length ∧ v = .int .i64 (i : Nat) ∧ KSt w wr (z + 1) hi z #[.slice s0 n0 c0, .slice s1 n1 c1, .slice a A.length ca, .slice b B.length cb, .slice c C.length cc] a1 a2 a3 g A B C) (fun v _ => C.length - (intOf v).toNat)
            case atStart => exact ⟨0, Nat.zero_le _, rfl, hK⟩
            case round =>
              clear hK
              obtain ⟨i, hile, rfl, hK⟩ := hrel
              by_cases hlt : i < C.length
              · rcases hK.wc with h | ⟨ga, cur, rfl, hg1, hg2, hh, hsz⟩
                · omega
                · obtain ⟨u0, hu0⟩ : ∃ u, cur[i * 2]? = some u := ⟨_, Array.getElem?_eq_getElem (by omega)⟩
                  obtain ⟨u1, hu1⟩ : ∃ u, cur[i * 2 + 1]? = some u := ⟨_, Array.getElem?_eq_getElem (by omega)⟩
                  have cx0 := (cell_of_block hh (i * 2)).trans hu0
                  have cx1 := (cell_of_block hh (i * 2 + 1)).trans hu1
                  have f0 := fun j => unfrozen_of_block hh j
                  have hd1 : decide ((i : Int) < (C.length : Int)) = true := decide_eq_true (by omega)
                  have HK : Hid (KSt w wr (z + 1) hi z #[.slice s0 n0 c0, .slice s1 n1 c1, .slice a A.length ca, .slice b B.length cb, .slice c C.length cc] a1 a2 (some ⟨ga, 0, none⟩) g A B C) := hK
                  clear hh hu0 hu1 hK
                  go_wp2_with fail
                  exact ⟨⟨i + 1, by omega, by go_num, (HK.out.set (i * 2) _ hg1 hg2 (by omega) (by rw [HZ.out]; omega)).set (i * 2 + 1) _ hg1 hg2 (by omega) (by rw [HZ.out]; omega)⟩, by simp only [intOf]; omega⟩
              · have hie : i = C.length := by omega
                subst hie
                have hd1 : decide ((C.length : Int) < (C.length : Int)) = false := decide_eq_false (by omega)
                go_wp2_with fail
                obtain ⟨V, hV⟩ : ∃ V, V = wr := ⟨_, rfl⟩
                subst hV
                have hT := hK.tab.tab
                have hbox := hK.box
                have hAV := hA.below hK.bel
                have hBV := hB.below hK.bel
                have hCV := hC.below hK.bel
                have hLV := hL.below hK.bel
                have hGV := hG.below hK.bel
                have bel := hK.bel
                clear hK hA hB hC hL hG
                go_loopw [14] (fun v wr => ∃ i : Nat, i ≤ L.length ∧ v = .int .i64 (i : Nat) ∧ Below V.heap.size V wr) (fun v _ => L.length - (intOf v).toNat)
                case atStart => exact ⟨0, Nat.zero_le _, rfl, Below.refl _ _⟩
                case round =>
                  obtain ⟨i, hile, rfl, hbr⟩ := hrel
                  by_cases hlt : i < L.length
                  · have hd1 : decide ((i : Int) < (L.length : Int)) = true := decide_eq_true (by omega)
                    by_cases h50 : i < 50
                    · have hd2 : decide ((i : Int) < 50) = true := decide_eq_true (by omega)
                      rcases hLV with h | ⟨bl, ol, rfl, hl⟩
                      · rw [h] at hlt; simp at hlt
                      obtain ⟨r, hr⟩ : ∃ r, L[i]? = some r := ⟨_, List.getElem?_eq_getElem hlt⟩
                      have cr := (hbr.cell (World.block_lt_of_cell? V _ (hl i r hr))).trans (hl i r hr)
                      have hbx := (hbr.block _ (Array.getElem?_eq_some_iff.1 hbox).1).trans hbox
                      have d0 := cell_regrown (cell_of_block hbx (i := 0) |>.trans rfl)
                      have d1 := cell_regrown (cell_of_block hbx (i := 1) |>.trans rfl)
                      have d2 := cell_regrown (cell_of_block hbx (i := 2) |>.trans rfl)
                      have d3 := cell_regrown (cell_of_block hbx (i := 3) |>.trans rfl)
                      have d4 := cell_regrown (cell_of_block hbx (i := 4) |>.trans rfl)
                      have kr := cell_regrown cr
                      have hTr := hT.below hbr
                      have hAr := hAV.below hbr
                      have hBr := hBV.below hbr
                      have hCr := hCV.below hbr
                      have hGr := hGV.below hbr
                      have G2 := fun d os => of_any g A B C r (grow (redrawn wr d) os) (hTr.below (below_regrown wr d os)) hR.1 hR.2.1 hR.2.2 (hGr.below (below_regrown wr d os))
                      have G3 := fun d os => refOf_any s0 s1 a b c n0 c0 n1 c1 ca cb cc A B C r (grow (redrawn wr d) os) (hAr.below (below_regrown wr d os)) (hBr.below (below_regrown wr d os)) (hCr.below (below_regrown wr d os))
                      unfold dtV at G3
                      obtain ⟨k, hk⟩ : ∃ k, k = kindOf A B C r := ⟨_, rfl⟩
                      rw [← hk] at G2 G3
                      have hne : ((k : Int) != (k : Int)) = false := by simp
                      have HT : Hid (TabAt V g A B C) := hT
                      have HBX : Hid (V.heap[z]? = some (.cells #[.slice s0 n0 c0, .slice s1 n1 c1, .slice a A.length ca, .slice b B.length cb, .slice c C.length cc] 47 (0, 0))) := hbox
                      clear hk hl hr hbx hTr hAr hBr hCr hGr hbox hT
                      try dsimp only at G2 G3
                      go_wp2_with fail
                      refine wp_region_quiet_below (by kernel_rfl) (by kernel_rfl) ?_
                      repeat (go_big_quiet_step (first
                        | (go_at_call 16; exact Calls.regrown_of (G2 _ _))
                        | (go_at_call 17; exact Calls.regrown_of (G3 _ _))))
                      refine wpQuiet_nil ?_
                      intro W5 hw'
                      have hb5 : Below wr.heap.size wr W5 := by
                        obtain ⟨⟨dq, osq⟩, rfl⟩ := hw'
                        exact below_regrown _ _ _
                      clear hw' G2 G3 d0 d1 d2 d3 d4 kr cr
                      go_wp2_with fail
                      exact ⟨⟨i + 1, by omega, by go_num, hbr.trans (hb5.mono hbr.size)⟩, by simp only [intOf]; omega⟩
                    · have hd2 : decide ((i : Int) < 50) = false := decide_eq_false (by omega)
                      clear hT hbox hAV hBV hCV hLV
                      have hGr := hGV.below hbr
                      go_wp2_with fail
                      refine (known_any _ hGr).mono ?_
                      rintro e w9 ⟨rfl, hb9⟩
                      go_wp2_with fail
                      go_ret
                      exact ⟨rfl, (bel.trans (hbr.mono bel.size)).trans (hb9.mono (Nat.le_trans bel.size hbr.size))⟩
                  · have hd1 : decide ((i : Int) < (L.length : Int)) = false := decide_eq_false (by omega)
                    clear hT hbox hAV hBV hCV hLV
                    have hGr := hGV.below hbr
                    go_wp2_with fail
                    refine (known_any _ hGr).mono ?_
                    rintro e w9 ⟨rfl, hb9⟩
                    go_wp2_with fail
                    go_ret
                    exact ⟨rfl, (bel.trans (hbr.mono bel.size)).trans (hb9.mono (Nat.le_trans bel.size hbr.size))⟩
  · have hd : decide (y = 0) = false := decide_eq_false h0
    have hG4 := hG.below B4
    clear hp1 hp2 HRg q1 q2 q3 hD4 hA hB hC hL hG
    go_wp2_with fail
    refine (known_any _ hG4).mono ?_
    rintro e w5 ⟨rfl, hb5⟩
    go_wp2_with fail
    go_ret
    exact ⟨rfl, B4.trans (hb5.mono B4.size)⟩
end Go.Proofs.YtddeamecgbdajaaDoor
