/- (*tesserabook.Book).Apart of bytes: the walk. -/
import Derived.Test.YthlcdaopldnocabIBookApart
import Derived.Test.YthlcdaopldnocabUPut
namespace Go.Proofs.Ythlcdaopldnocab
open Go.RowKit Go.Sort
open Go.Joins
theorem Marks.cell {w : World} {g n c i m j : Nat} (h : Marks w (.slice (some ⟨g, 0, none⟩) n c) i m) (hj : j < c) (t : Nat) (ht : t < 4) : ∃ v, w.cell? ⟨g, j * 4 + t, none⟩ = some v ∧ w.frozen? ⟨g, j * 4 + t, none⟩ = false := by
  obtain ⟨cur, h1, h2, _⟩ := h g n c rfl
  exact ⟨cur[j * 4 + t], by rw [cell_of_block h1, Array.getElem?_eq_getElem (by omega)], unfrozen_of_block h1 _⟩
set_option maxRecDepth 100000 in
set_option maxHeartbeats 8000000 in
theorem apart_any (w : World) (base B : Nat) (vl vw : Value) (es : List Ent) (held : Int) (hI : BookInv w base B vl vw es held) (h0 : 0 < es.length) (hes : es.length ≤ 1000000) (hbase : base ≤ w.heap.size) (hBb : base ≤ B) :
    Calls Try.prog 13 #[.pointer (some ⟨B, 0, none⟩), .func (.func 14) #[] #[]] w fun e w' => e = .returned (.bool true) ∧ Below base w w' := by
  have hST := stays_any w base B vl vw es held hI h0
  obtain ⟨gl, ol, cl, rfl, -, -, hcl, hclm, -⟩ := hI.lists.form (by rw [List.length_map]; exact h0)
  simp only [List.length_map] at hI hcl hST
  have HP : Hid (es.Pairwise fun e f => ∀ g, e.v.ownBlock = some g → f.v.ownBlock ≠ some g) := hI.pair
  obtain ⟨n, hn⟩ : ∃ n, n = es.length := ⟨_, rfl⟩
  rw [← hn] at hI hcl h0 hes hST
  have HN : Hid (n = es.length) := hn
  clear hn hclm hI
  go_enter Try.func13, Try.ntmps13
  go_wp2_with (go_at_call 21; refine hST.mono ?_; rintro e w1 ⟨rfl, hI1, ho1⟩)
  have hb1 : Below base w w1 := ho1.below (fun i hi => by omega) hbase
  have HE : Hid (∀ e ∈ es, OwnI 29 w1 base e.v e.l) := fun e he => (hI1.ents e he).1
  have hPh := Ph.start hI1 hb1
  clear ho1 hb1 hI1
  go_loopg [5] n (fun k i wr => ∃ q : Nat, q ≤ n ∧ k = n - q ∧ i = .int .i64 q ∧ Ph w base B (.slice (some ⟨gl, ol, none⟩) n cl) vw es held q wr)
  case atStart => exact ⟨0, Nat.zero_le _, rfl, rfl, hPh⟩
  case round =>
    obtain ⟨q, hq, rfl, rfl, hr⟩ := hrel
    have b0 := hr.at_.c0
    by_cases hlt : q < n
    · obtain ⟨_, _, _, e1, -, -, -, -, hlc⟩ := hr.lists.form (by rw [List.length_map, ← HN.out]; omega)
      simp only [Value.slice.injEq, Option.some.injEq, Addr.mk.injEq, and_true] at e1
      obtain ⟨⟨rfl, rfl⟩, -, rfl⟩ := e1
      have hqe : q < es.length := by rw [← HN.out]; exact hlt
      have c0 := hlc q (by rw [List.length_map]; exact hqe)
      simp only [List.getElem_map] at c0
      rcases (HE.out es[q] (List.getElem_mem hqe)).heads with ⟨hv, -⟩ | ⟨g, c, hv, hc63, hlc'⟩
      · have HQ : Hid (∃ h : q < es.length, es[q].v = .slice none 0 0) := ⟨hqe, hv⟩
        rw [hv] at c0
        clear hv hqe hlc
        go_wp2
        go_quiet (fail)
        go_wp2
        refine wp_loop_rounds 1 ?_
        rw [rounds_succ]
        go_wp2
        go_roundg (n - (q + 1))
        case measure => omega
        case rel =>
          obtain ⟨hq', hv⟩ := HQ.out
          exact ⟨q + 1, by omega, rfl, by go_num, (hr.drewN nq).next hq' (fun m => by rw [hv]; exact Marks.ofNil)⟩
      · have HQ : Hid (∃ h : q < es.length, es[q].v = .slice (some ⟨g, 0, none⟩) es[q].l.length c) := ⟨hqe, hv⟩
        rw [hv] at c0
        obtain ⟨ln, hln⟩ : ∃ ln, ln = es[q].l.length := ⟨_, rfl⟩
        rw [← hln] at c0 hlc'
        clear hv hqe hlc hln
        go_wp2
        go_quiet (fail)
        go_wp2
        have hPn := hr.drewN nq
        obtain ⟨wq, hwq⟩ : ∃ x, x = wr.drewN nq := ⟨_, rfl⟩
        rw [← hwq] at hPn ⊢
        clear hwq hr b0 c0
        go_loopg [7] c (fun k i wy => ∃ j : Nat, j ≤ c ∧ k = c - j ∧ i = .int .i64 j ∧ Ph w base B (.slice (some ⟨gl, ol, none⟩) n cl) vw es held q wy ∧ Marks wy (.slice (some ⟨g, 0, none⟩) ln c) q j)
        case atStart =>
          obtain ⟨hq', hv⟩ := HQ.out
          refine ⟨0, Nat.zero_le _, rfl, rfl, hPn, ?_⟩
          have := hPn.blk es[q] (List.getElem_mem hq')
          rw [hv] at this
          intro g' n' c' e
          simp only [Value.slice.injEq, Option.some.injEq, Addr.mk.injEq, and_true] at e
          obtain ⟨rfl, -, rfl⟩ := e
          obtain ⟨cur, x1, x2⟩ := this _ _ _ rfl
          exact ⟨cur, x1, x2, fun j hj => by omega⟩
        case round =>
          obtain ⟨j, hj, rfl, rfl, hrj, hm⟩ := hrel
          by_cases hjc : j < c
          · have hbw : base ≤ wr.heap.size := Nat.le_trans hbase hrj.below.size
            have HM := fun wx => mark_any q j wx (by omega) (by omega)
            unfold markV at HM
            have HRJ : Hid (Ph w base B (.slice (some ⟨gl, ol, none⟩) n cl) vw es held q wr) := hrj
            have HMM : Hid (Marks wr (.slice (some ⟨g, 0, none⟩) ln c) q j) := hm
            clear hrj hm
            go_wp2_with fail
            refine (HM _).mono ?_; rintro e w5 ⟨rfl, hb5⟩
            have hm := HMM.out.over hb5
            have hrj := HRJ.out.over hb5 hbw
            obtain ⟨x0, c0, f0⟩ := hm.cell hjc 0 (by omega)
            obtain ⟨x1, c1, f1⟩ := hm.cell hjc 1 (by omega)
            obtain ⟨x2, c2, f2⟩ := hm.cell hjc 2 (by omega)
            obtain ⟨x3, c3, f3⟩ := hm.cell hjc 3 (by omega)
            rw [Nat.add_zero] at c0 f0
            clear HM hb5
            go_wp2_with fail
            go_roundg (c - (j + 1))
            case measure => omega
            case rel =>
              obtain ⟨hq', hv⟩ := HQ.out
              have hm' : Marks w5 es[q].v q j := by
                rw [hv]; intro g' n' c' e
                simp only [Value.slice.injEq, Option.some.injEq, Addr.mk.injEq, and_true] at e
                obtain ⟨rfl, -, rfl⟩ := e
                exact hm _ _ _ rfl
              obtain ⟨s1, s2⟩ := hrj.step HP.out hq' hv hm' hjc
              rw [marked_eq] at s1 s2
              refine ⟨j + 1, by omega, rfl, by go_num, s1, ?_⟩
              rw [hv] at s2
              intro g' n' c' e
              simp only [Value.slice.injEq, Option.some.injEq, Addr.mk.injEq, and_true] at e
              obtain ⟨rfl, -, rfl⟩ := e
              exact s2 _ _ _ rfl
          · go_wp2
            go_roundg (n - (q + 1))
            case measure => omega
            case rel =>
              obtain ⟨hq', hv⟩ := HQ.out
              have hjc' : j = c := by omega
              subst hjc'
              exact ⟨q + 1, by omega, rfl, by go_num, hrj.next hq' (fun m => by
                rw [hv]; intro g' n' c' e
                simp only [Value.slice.injEq, Option.some.injEq, Addr.mk.injEq, and_true] at e
                obtain ⟨rfl, -, rfl⟩ := e
                exact (hm.full m) _ _ _ rfl)⟩
    · have hqn : q = n := by omega
      have HD : Hid (q = n) := hqn
      clear hPh
      go_wp2
      go_loopg [8] n (fun k i wx => ∃ p : Nat, p ≤ n ∧ k = n - p ∧ i = .int .i64 p ∧ Ph w base B (.slice (some ⟨gl, ol, none⟩) n cl) vw es held n wx)
      case atStart => exact ⟨0, Nat.zero_le _, rfl, rfl, by rw [HD.out] at hr; exact hr⟩
      case round =>
        obtain ⟨p, hp, rfl, rfl, hx⟩ := hrel
        clear hr b0 hlt hqn
        have b0 := hx.at_.c0
        by_cases hpn : p < n
        · obtain ⟨_, _, _, e1, -, -, -, -, hlc⟩ := hx.lists.form (by rw [List.length_map, ← HN.out]; omega)
          simp only [Value.slice.injEq, Option.some.injEq, Addr.mk.injEq, and_true] at e1
          obtain ⟨⟨rfl, rfl⟩, -, rfl⟩ := e1
          have hpe : p < es.length := by rw [← HN.out]; exact hpn
          have c0 := hlc p (by rw [List.length_map]; exact hpe)
          simp only [List.getElem_map] at c0
          have hdone := hx.done p hpe hpn
          rcases (HE.out es[p] (List.getElem_mem hpe)).heads with ⟨hv, -⟩ | ⟨g, c, hv, hc63, hlc'⟩
          · rw [hv] at c0
            clear hv hpe hlc hdone
            go_wp2
            go_quiet (fail)
            go_wp2
            refine wp_loop_rounds 1 ?_
            rw [rounds_succ]
            go_wp2
            go_roundg (n - (p + 1))
            case measure => omega
            case rel => exact ⟨p + 1, by omega, rfl, by go_num, hx.drewN nq⟩
          · rw [hv] at c0 hdone
            obtain ⟨ln, hln⟩ : ∃ ln, ln = es[p].l.length := ⟨_, rfl⟩
            rw [← hln] at c0 hlc' hdone
            clear hv hpe hlc hln
            go_wp2
            go_quiet (fail)
            go_wp2
            have hPn := hx.drewN nq
            have hD : ∀ m, Marks (wr.drewN nq) (.slice (some ⟨g, 0, none⟩) ln c) p m := fun m => (hdone m).kept (fun _ _ => rfl)
            obtain ⟨wq, hwq⟩ : ∃ x, x = wr.drewN nq := ⟨_, rfl⟩
            rw [← hwq] at hPn hD ⊢
            clear hwq hx b0 c0 hdone
            have HDD : Hid (Marks wq (.slice (some ⟨g, 0, none⟩) ln c) p c) := hD c
            clear hD
            have hbq : base ≤ wq.heap.size := Nat.le_trans hbase hPn.below.size
            go_loopg [10] c (fun k i wy => ∃ j : Nat, j ≤ c ∧ k = c - j ∧ i = .int .i64 j ∧ Below wq.heap.size wq wy)
            case atStart => exact ⟨0, Nat.zero_le _, rfl, rfl, Below.refl _ _⟩
            case round =>
              obtain ⟨j, hj, rfl, rfl, hnd⟩ := hrel
              have HND : Hid (Below wq.heap.size wq wr) := hnd
              by_cases hjc : j < c
              · obtain ⟨cur, y1, y2, y3⟩ := (HDD.out.over hnd) g ln c rfl
                have hcell : ∀ t, t < 4 → wr.cell? ⟨g, j * 4 + t, none⟩ = (markC p j)[t]? := fun t ht => by
                  rw [cell_of_block y1]; exact y3 j hjc hjc t ht
                have c0 := hcell 0 (by omega)
                have c1 := hcell 1 (by omega)
                have c2 := hcell 2 (by omega)
                have c3 := hcell 3 (by omega)
                rw [Nat.add_zero] at c0
                simp only [markC, List.getElem?_cons_zero, List.getElem?_cons_succ] at c0 c1 c2 c3
                have HM := fun wx => mark_any p j wx (by omega) (by omega)
                unfold markV at HM
                clear y1 y2 y3 hnd hcell
                go_wp2_with fail
                have k0 := cell_regrown (w := wr) c0
                have k1 := cell_regrown (w := wr) c1
                have k2 := cell_regrown (w := wr) c2
                have k3 := cell_regrown (w := wr) c3
                clear c0 c1 c2 c3
                refine wp_region_quiet_tail (C := fun w' => ∃ p : Regrown, w' = grow (redrawn wr p.d) p.os) 8 (by kernel_rfl) (by kernel_rfl) ⟨⟨_, #[]⟩, by rw [grow_empty]; rfl⟩ ?_
                simp only [List.take_succ_cons, List.take_zero, List.drop_succ_cons, List.drop_zero]
                repeat (go_big_quiet_step (fail))
                refine wpQuiet_step (fun K hK => ?_)
                go_simp
                apply Exists.intro
                refine ⟨fun _ => ?_, hK _ ?_⟩
                · exact Calls.regrown_of (HM _)
                clear hK K
                refine wpQuiet_nil ?_
                intro W5 hw'
                have hb5 : Below wr.heap.size wr W5 := by
                  obtain ⟨⟨dq, osq⟩, rfl⟩ := hw'
                  exact below_regrown _ _ _
                clear k0 k1 k2 k3 hw'
                have hb6 := HND.out.trans (hb5.mono HND.out.size)
                clear hb5
                go_wp2_with fail
                go_roundg (c - (j + 1))
                case measure => omega
                case rel => exact ⟨j + 1, by omega, rfl, by go_num, hb6⟩
              · clear hnd
                go_wp2
                go_roundg (n - (p + 1))
                case measure => omega
                case rel => exact ⟨p + 1, by omega, rfl, by go_num, hPn.over HND.out hbq⟩
        · have n0 := hx.at_.free 0
          have n1 := hx.at_.free 1
          have n2 := hx.at_.free 2
          have b1 := hx.at_.c1
          have b2 := hx.at_.c2
          go_wp2
          go_ret
          exact ⟨rfl, ((hx.below.setCell hBb _).setCell hBb _).setCell hBb _⟩
end Go.Proofs.Ythlcdaopldnocab
