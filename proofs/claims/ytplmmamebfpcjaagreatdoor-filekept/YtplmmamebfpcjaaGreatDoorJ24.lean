import Derived.Test.YtplmmamebfpcjaaGreatDoorJ23
import Derived.Test.YtplmmamebfpcjaaGreatDoorJ22
import Derived.LaidEql
import Derived.Deep.RegionWith
section
/- (*tesserabook.Book).Apart of bytes: the walk. -/
namespace Go.Proofs.YtplmmamebfpcjaaGreatDoor.Oc
open Go.RowKit
open Go.Joins
theorem Marks.cell {w : World} {g n c i m j : Nat} (h : Marks w (.slice (some ⟨g, 0, none⟩) n c) i m) (hj : j < c) : ∃ v, w.cell? ⟨g, j, none⟩ = some v ∧ w.frozen? ⟨g, j, none⟩ = false := by
  obtain ⟨cur, h1, h2, _⟩ := h g n c rfl
  exact ⟨cur[j], by rw [cell_of_block h1, Array.getElem?_eq_getElem (by omega)], unfrozen_of_block h1 j⟩
set_option maxRecDepth 100000 in
set_option maxHeartbeats 8000000 in
theorem apart_any (w : World) (base B : Nat) (vl vw : Value) (es : List Ent) (held : Int) (hI : BookInv w base B vl vw es held) (h0 : 0 < es.length) (hes : es.length ≤ 1000000) (hbase : base ≤ w.heap.size) (hBb : base ≤ B) :
    Calls Tryz.prog 24 #[.pointer (some ⟨B, 0, none⟩), .func (.func 25) #[] #[]] w fun e w' => e = .returned (.bool true) ∧ Below base w w' := by
  have hST := stays_any w base B vl vw es held hI h0
  obtain ⟨gl, ol, cl, rfl, -, -, hcl, hclm, -⟩ := hI.lists.form (by rw [List.length_map]; exact h0)
  simp only [List.length_map] at hI hcl hST
  have HP : Hid (es.Pairwise fun e f => ∀ g, e.v.ownBlock = some g → f.v.ownBlock ≠ some g) := hI.pair
  obtain ⟨n, hn⟩ : ∃ n, n = es.length := ⟨_, rfl⟩
  rw [← hn] at hI hcl h0 hes hST
  have HN : Hid (n = es.length) := hn
  clear hn hclm hI
  go_enter Tryz.func24, Tryz.ntmps24
  go_wp2_with (go_at_call 52; refine hST.mono ?_; rintro e w1 ⟨rfl, hI1, ho1⟩)
  have hb1 : Below base w w1 := ho1.below (fun i hi => by omega) hbase
  have HE : Hid (∀ e ∈ es, OwnS w1 base e.v e.l) := fun e he => (hI1.ents e he).1
  have hPh := Ph.start hI1 hb1
  clear ho1 hb1 hI1
  go_loopg [5] n (fun k i wr => ∃ q : Nat, q ≤ n ∧ k = n - q ∧ i = .int .i64 q ∧ Ph w base B (.slice (some ⟨gl, ol, none⟩) n cl) vw es held q wr)
  case atStart => exact ⟨0, Nat.zero_le _, rfl, rfl, hPh⟩
  case round =>
    obtain ⟨q, hq, rfl, rfl, hr⟩ := hrel
    have b0 := hr.at_.c0
    by_cases hlt : q < n
    · obtain ⟨_, _, _, e1, -, -, -, -, hlc⟩ := hr.lists.form (by rw [List.length_map, ← HN.out]; omega)
      simp only [Value.slice.injEq, Option.some.injEq, Addr.mk.injEq, and_true] at e1
      obtain ⟨⟨rfl, rfl⟩, -, rfl⟩ := e1
      have hqe : q < es.length := by rw [← HN.out]; exact hlt
      have c0 := hlc q (by rw [List.length_map]; exact hqe)
      simp only [List.getElem_map] at c0
      rcases (HE.out es[q] (List.getElem_mem hqe)).heads with ⟨hv, -⟩ | ⟨g, c, hv, hc63, hlc'⟩
      · have HQ : Hid (∃ h : q < es.length, es[q].v = .slice none 0 0) := ⟨hqe, hv⟩
        rw [hv] at c0
        clear hv hqe hlc
        go_wp2
        go_quiet (fail)
        go_wp2
        refine wp_loop_rounds 1 ?_
        rw [rounds_succ]
        go_wp2
        go_roundg (n - (q + 1))
        case measure => omega
        case rel =>
          obtain ⟨hq', hv⟩ := HQ.out
          exact ⟨q + 1, by omega, rfl, by go_num, (hr.drewN nq).next hq' (fun m => by rw [hv]; exact Marks.ofNil)⟩
      · have HQ : Hid (∃ h : q < es.length, es[q].v = .slice (some ⟨g, 0, none⟩) es[q].l.length c) := ⟨hqe, hv⟩
        rw [hv] at c0
        obtain ⟨ln, hln⟩ : ∃ ln, ln = es[q].l.length := ⟨_, rfl⟩
        rw [← hln] at c0 hlc'
        clear hv hqe hlc hln
        go_wp2
        go_quiet (fail)
        go_wp2
        have hPn := hr.drewN nq
        obtain ⟨wq, hwq⟩ : ∃ x, x = wr.drewN nq := ⟨_, rfl⟩
        rw [← hwq] at hPn ⊢
        clear hwq hr b0 c0
        go_loopg [7] c (fun k i wy => ∃ j : Nat, j ≤ c ∧ k = c - j ∧ i = .int .i64 j ∧ Ph w base B (.slice (some ⟨gl, ol, none⟩) n cl) vw es held q wy ∧ Marks wy (.slice (some ⟨g, 0, none⟩) ln c) q j)
        case atStart =>
          obtain ⟨hq', hv⟩ := HQ.out
          refine ⟨0, Nat.zero_le _, rfl, rfl, hPn, ?_⟩
          have := hPn.blk es[q] (List.getElem_mem hq')
          rw [hv] at this
          intro g' n' c' e
          simp only [Value.slice.injEq, Option.some.injEq, Addr.mk.injEq, and_true] at e
          obtain ⟨rfl, -, rfl⟩ := e
          obtain ⟨cur, x1, x2⟩ := this _ _ _ rfl
          exact ⟨cur, x1, x2, fun j hj => by omega⟩
        case round =>
          obtain ⟨j, hj, rfl, rfl, hrj, hm⟩ := hrel
          by_cases hjc : j < c
          · obtain ⟨x, hx, hf⟩ := hm.cell hjc
            go_wp2
            go_roundg (c - (j + 1))
            case measure => omega
            case rel =>
              obtain ⟨hq', hv⟩ := HQ.out
              rw [mark_cast]
              have hm' : Marks wr es[q].v q j := by
                rw [hv]; intro g' n' c' e
                simp only [Value.slice.injEq, Option.some.injEq, Addr.mk.injEq, and_true] at e
                obtain ⟨rfl, -, rfl⟩ := e
                exact hm _ _ _ rfl
              obtain ⟨s1, s2⟩ := hrj.step HP.out hq' hv hm' hjc
              refine ⟨j + 1, by omega, rfl, by go_num, s1, ?_⟩
              rw [hv] at s2
              intro g' n' c' e
              simp only [Value.slice.injEq, Option.some.injEq, Addr.mk.injEq, and_true] at e
              obtain ⟨rfl, -, rfl⟩ := e
              exact s2 _ _ _ rfl
          · go_wp2
            go_roundg (n - (q + 1))
            case measure => omega
            case rel =>
              obtain ⟨hq', hv⟩ := HQ.out
              have hjc' : j = c := by omega
              subst hjc'
              exact ⟨q + 1, by omega, rfl, by go_num, hrj.next hq' (fun m => by
                rw [hv]; intro g' n' c' e
                simp only [Value.slice.injEq, Option.some.injEq, Addr.mk.injEq, and_true] at e
                obtain ⟨rfl, -, rfl⟩ := e
                exact (hm.full m) _ _ _ rfl)⟩
    · have hqn : q = n := by omega
      have HD : Hid (q = n) := hqn
      clear hPh
      go_wp2
      go_loopg [8] n (fun k i wx => ∃ p : Nat, p ≤ n ∧ k = n - p ∧ i = .int .i64 p ∧ Ph w base B (.slice (some ⟨gl, ol, none⟩) n cl) vw es held n wx)
      case atStart => exact ⟨0, Nat.zero_le _, rfl, rfl, by rw [HD.out] at hr; exact hr⟩
      case round =>
        obtain ⟨p, hp, rfl, rfl, hx⟩ := hrel
        clear hr b0 hlt hqn
        have b0 := hx.at_.c0
        by_cases hpn : p < n
        · obtain ⟨_, _, _, e1, -, -, -, -, hlc⟩ := hx.lists.form (by rw [List.length_map, ← HN.out]; omega)
          simp only [Value.slice.injEq, Option.some.injEq, Addr.mk.injEq, and_true] at e1
          obtain ⟨⟨rfl, rfl⟩, -, rfl⟩ := e1
          have hpe : p < es.length := by rw [← HN.out]; exact hpn
          have c0 := hlc p (by rw [List.length_map]; exact hpe)
          simp only [List.getElem_map] at c0
          have hdone := hx.done p hpe hpn
          rcases (HE.out es[p] (List.getElem_mem hpe)).heads with ⟨hv, -⟩ | ⟨g, c, hv, hc63, hlc'⟩
          · rw [hv] at c0
            clear hv hpe hlc hdone
            go_wp2
            go_quiet (fail)
            go_wp2
            refine wp_loop_rounds 1 ?_
            rw [rounds_succ]
            go_wp2
            go_roundg (n - (p + 1))
            case measure => omega
            case rel => exact ⟨p + 1, by omega, rfl, by go_num, hx.drewN nq⟩
          · rw [hv] at c0 hdone
            obtain ⟨ln, hln⟩ : ∃ ln, ln = es[p].l.length := ⟨_, rfl⟩
            rw [← hln] at c0 hlc' hdone
            clear hv hpe hlc hln
            go_wp2
            go_quiet (fail)
            go_wp2
            have hPn := hx.drewN nq
            have hD : ∀ m, Marks (wr.drewN nq) (.slice (some ⟨g, 0, none⟩) ln c) p m := fun m => (hdone m).kept (fun _ _ => rfl)
            obtain ⟨wq, hwq⟩ : ∃ x, x = wr.drewN nq := ⟨_, rfl⟩
            rw [← hwq] at hPn hD ⊢
            clear hwq hx b0 c0 hdone
            have HDD : Hid (Marks wq (.slice (some ⟨g, 0, none⟩) ln c) p c) := hD c
            clear hD
            go_loopg [10] c (fun k i wy => ∃ j : Nat, j ≤ c ∧ k = c - j ∧ i = .int .i64 j ∧ ∃ nd, wy = wq.drewN nd)
            case atStart => exact ⟨0, Nat.zero_le _, rfl, rfl, 0, rfl⟩
            case round =>
              obtain ⟨j, hj, rfl, rfl, nd, hnd⟩ := hrel
              have HND : Hid (wr = wq.drewN nd) := hnd
              by_cases hjc : j < c
              · obtain ⟨cur, y1, y2, y3⟩ := HDD.out g ln c rfl
                have hcell : wr.cell? ⟨g, j, none⟩ = some (.int .u8 (markB p j : Nat)) := by
                  rw [hnd, cell_of_block (w := wq.drewN nd) y1]; exact y3 j hjc hjc
                have HBy := fun wz : World => bytes_any p j wz (by omega) (by omega)
                clear y1 y2 y3 hnd
                go_wp2
                go_quiet ((go_at_call 25; exact Calls.quiet_of_same (HBy _)))
                go_wp2
                go_roundg (c - (j + 1))
                case measure => omega
                case rel => exact ⟨j + 1, by omega, rfl, by go_num, nd + nq, by rw [HND.out]; exact World.drewN_drewN ..⟩
              · clear hnd
                go_wp2
                go_roundg (n - (p + 1))
                case measure => omega
                case rel => exact ⟨p + 1, by omega, rfl, by go_num, by rw [HND.out]; exact hPn.drewN nd⟩
        · have n0 := hx.at_.free 0
          have n1 := hx.at_.free 1
          have n2 := hx.at_.free 2
          have b1 := hx.at_.c1
          have b2 := hx.at_.c2
          go_wp2
          go_ret
          exact ⟨rfl, ((hx.below.setCell hBb _).setCell hBb _).setCell hBb _⟩
end Go.Proofs.YtplmmamebfpcjaaGreatDoor.Oc
end
section
/- Books of bytes: aids. -/
namespace Go.Proofs.YtplmmamebfpcjaaGreatDoor.Oc
open Go.RowKit
open Go.Joins
theorem BookInv.over {wx w1 : World} {base B : Nat} {vl vw : Value} {es : List Ent} {held : Int} (h : BookInv wx base B vl vw es held) (hb : Below wx.heap.size wx w1) : BookInv w1 base B vl vw es held :=
  h.move ((Only.ofBelow (S := fun k => k = B) hb)) (h.at_.kept (hb.block B h.at_.lt))
theorem BookInv.fresh {wx w1 : World} {base B : Nat} {vl vw : Value} {es : List Ent} {held : Int} (h : BookInv wx base B vl vw es held) {v : Value} {L : List UInt8} (hv : OwnS w1 wx.heap.size v L) : ∀ e ∈ es, ∀ g, e.v.ownBlock = some g → v.ownBlock ≠ some g := by
  intro e he g hg hg'
  obtain ⟨_, cur, hc⟩ := (h.ents e he).1.block hg
  have := (hv.block hg').1
  have := (Array.getElem?_eq_some_iff.1 hc).1
  omega
theorem KeepPost.use {w w' : World} {base B : Nat} {vl vw v : Value} {es : List Ent} {l : List UInt8} {held : Int} (h : KeepPost w base B vl vw es v l w') (hI : BookInv w base B vl vw es held) (hB : base ≤ B) (hb : base ≤ w.heap.size) :
    ∃ vl' vw' es' held', 0 < es'.length ∧ es'.length ≤ es.length + 1 ∧ BookInv w' base B vl' vw' es' held' ∧ Below base w w' := by
  obtain ⟨vl', vw', es', held', u, h1, h2, h3, h4⟩ := h
  refine ⟨vl', vw', es', held', h1, by have := h2.length_le; simpa using this, h3, h4.only.below (fun i hi => ?_) hb⟩
  rcases hi with rfl | hi | hi
  · exact hB
  · exact (hI.lists.lt i hi).1
  · exact (hI.was.lt i hi).1
theorem book_new (w : World) : BookInv (w.alloc (.cells #[.slice none 0 0, .slice none 0 0, .int .i64 0, .bool false] 58)) w.heap.size w.heap.size (.slice none 0 0) (.slice none 0 0) [] 0 :=
  ⟨heap_alloc_new w _, SRow.nil _ _, SRow.nil _ _, fun e he => (by simp at he), fun g hg => (by cases hg), List.Pairwise.nil⟩
end Go.Proofs.YtplmmamebfpcjaaGreatDoor.Oc
end
section
/- FileKept: the walk. -/
namespace Go.Proofs.YtplmmamebfpcjaaGreatDoor
open Go.RowKit Go.Sort Go.Joins
set_option linter.unusedVariables false
set_option maxRecDepth 100000
theorem refComp : (Tryz.prog.info? 83).map (·.comparable) = some true := by kernel_rfl
theorem refSize : (Tryz.prog.info? 85).map (·.size) = some 2 := by kernel_rfl
theorem refNe (w : World) (M N : Nat) (e e' : Er) (h1 : Rf w M e) (h2 : Rf w N e') (hne : M ≠ N) : (binOp .eql 38 (.iface 83 (.pointer (some ⟨M, 0, none⟩))) (.iface 83 (.pointer (some ⟨N, 0, none⟩)))).run Tryz.prog w = .ok (.bool false) w := by
  obtain ⟨i, hi, hc⟩ : ∃ i, Tryz.prog.info? 83 = some i ∧ i.comparable = true := by
    have h := refComp
    cases hx : Tryz.prog.info? 83 with
    | none => rw [hx] at h; cases h
    | some i => rw [hx] at h; exact ⟨i, rfl, by simpa using h⟩
  obtain ⟨j, hj, hs⟩ : ∃ j, Tryz.prog.info? 85 = some j ∧ j.size = 2 := by
    have h := refSize
    cases hx : Tryz.prog.info? 85 with
    | none => rw [hx] at h; cases h
    | some i => rw [hx] at h; exact ⟨i, rfl, by simpa using h⟩
  exact run_eql_iface_ptr_other w (a := ⟨M, 0, none⟩) (b := ⟨N, 0, none⟩) Tryz.underlying38 Tryz.underlying83 hi hc hj (by rw [hs]; decide) (by intro h; simp only [Addr.mk.injEq] at h; exact hne h.1) h1 h2
theorem sameErr_ne (w : World) (M N : Nat) (e e' : Er) (h1 : Rf w M e) (h2 : Rf w N e') (hne : M ≠ N) : Calls Tryz.prog 23 #[.iface 83 (.pointer (some ⟨M, 0, none⟩)), .iface 83 (.pointer (some ⟨N, 0, none⟩))] w fun e w' => e = .returned (.bool false) ∧ w' = w := by
  have heq := refNe w M N e e' h1 h2 hne
  clear h1 h2
  go_enter Tryz.func23, Tryz.ntmps23
  go_wp2
  go_ret
  exact ⟨rfl, rfl⟩
set_option maxRecDepth 100000 in
set_option maxHeartbeats 8000000 in
theorem fkept_walk (aw am a b c : Option Addr) (cw cm ca cb cc : Nat) (ws : List ByteArray) (ms : List Mg) (A B C : List Sp) (fa : Option Addr) (fc : Nat) (l : List UInt8) (w : World) (hwf : MWf ms) (hn : ws.length ≤ 8796093022208 ∧ ms.length ≤ 5864062014805 ∧ A.length ≤ 17592186044416 ∧ B.length ≤ 17592186044416 ∧ C.length ≤ 17592186044416) (hW : WSP w aw ws) (hM : MSP w am ms) (hA : Lst w a ca A) (hB : Lst w b cb B) (hC : Lst w c cc C) (hlen : l.length ≤ 9223372036854775807) (hcap : l.length ≤ fc) (hf : Oc.BS w fa l) (hG : GL w) (hP : PT w) :
    Calls Tryz.prog 7 #[.agg #[.slice aw ws.length cw, .slice am ms.length cm, .slice a A.length ca, .slice b B.length cb, .slice c C.length cc], .slice fa l.length fc] w fun e w' => e = .returned (.bool true) ∧ Below w.heap.size w w' := by
  have hD := DBox.new w (.slice aw ws.length cw) (.slice am ms.length cm) (.slice a A.length ca) (.slice b B.length cb) (.slice c C.length cc)
  have hb0 := box_below w (.cells #[.slice aw ws.length cw, .slice am ms.length cm, .slice a A.length ca, .slice b B.length cb, .slice c C.length cc] 26)
  have HW : Hid (WSP w aw ws) := hW
  have HM : Hid (MSP w am ms) := hM
  have HA : Hid (Lst w a ca A) := hA
  have HB : Hid (Lst w b cb B) := hB
  have HC : Hid (Lst w c cc C) := hC
  have HG : Hid (GL w) := hG
  have HP : Hid (PT w) := hP
  have HF : Hid (Oc.BS w fa l) := hf
  clear hW hM hA hB hC hG hP hf
  have x0 := hD.c0
  have x1 := hD.c1
  have x2 := hD.c2
  have x3 := hD.c3
  have x4 := hD.c4
  go_enter Tryz.func7, Tryz.ntmps7
  go_wp2_with fail
  obtain ⟨Y, hY⟩ : ∃ Y, Y = w.alloc (.cells #[.slice aw ws.length cw, .slice am ms.length cm, .slice a A.length ca, .slice b B.length cb, .slice c C.length cc] 26) := ⟨_, rfl⟩
  rw [← hY] at hb0 hD ⊢
  clear hY x0 x1 x2 x3 x4
  obtain ⟨z, hz⟩ : ∃ z, z = w.heap.size := ⟨_, rfl⟩
  have HZ : Hid (z = w.heap.size) := hz
  rw [← hz] at hD ⊢
  clear hz
  refine (keepOf_any aw am a b c cw cm ca cb cc ws ms A B C Y hwf (by omega) (HW.out.below hb0) (HM.out.below hb0) (HA.out.below hb0) (HB.out.below hb0) (HC.out.below hb0) (HG.out.below hb0)).mono ?_
  rintro e w1 ⟨p, rfl, hp1, hp2, hb1⟩
  have B1 := hb0.trans (hb1.mono hb0.size)
  have hD1 := hD.below hb1 hD.lt
  cases hU : upB ws ms A B C with
  | false =>
    obtain rfl := hp2 hU
    clear hp1 hp2 hU hb1 hb0 hn hD hD1
    go_wp2_with fail
    refine (lawKnown_any w1 (HG.out.below B1) (HP.out.stays B1)).mono ?_
    rintro e w2 ⟨rfl, hb2⟩
    go_wp2_with fail
    go_ret
    exact ⟨rfl, B1.trans (hb2.mono B1.size)⟩
  | true =>
    obtain ⟨g, rfl, hMd⟩ := hp1 hU
    have hK := upB_ok hU
    have hpos := file_32 hK
    have hfl := file_len hK
    have hS := fun lo wx h => save_any g lo ws ms A B C wx hK h
    have hRf := fun wx h1 h2 h3 h4 h5 => refSave_any aw am a b c cw cm ca cb cc ws ms A B C wx hK h1 h2 h3 h4 h5
    obtain ⟨F, hF⟩ : ∃ F, F = fileF ws ms A B C := ⟨_, rfl⟩
    rw [← hF] at hpos hfl hS hRf
    obtain ⟨n, hn2⟩ : ∃ n, n = F.length := ⟨_, rfl⟩
    rw [← hn2] at hpos hfl
    have HN : Hid (n = F.length) := hn2
    have HBW : Hid (Below w.heap.size w w1) := B1
    obtain ⟨bk, hbk⟩ : ∃ bk, bk = w1.heap.size := ⟨_, rfl⟩
    have HD : Hid (DBox w1 z _ _ _ _ _) := hD1
    have HDL : Hid (z < bk) := by rw [hbk]; exact hD1.lt
    have HMd : Hid (ModelAt w1 Y.heap.size g ws ms A B C) := hMd
    have up : ∀ wx, Below bk w1 wx → Below w.heap.size w wx := fun wx hb => HBW.out.trans (hb.mono (by rw [hbk]; exact HBW.out.size))
    have HSv : Hid (∀ wx, Below bk w1 wx → Calls Tryz.prog 11 #[.pointer (some ⟨g, 0, none⟩)] wx (Oc.NewBytes wx F)) := fun wx hb => hS _ wx (HMd.out.below (by rw [← hbk]; exact hb))
    have HS : Hid (∀ wx, Below bk w1 wx → Calls Tryz.prog 11 #[.pointer (some ⟨g, 0, none⟩)] wx fun e w' => Below wx.heap.size wx w' ∧ ∃ gy cy, e = .returned (.slice (some ⟨gy, 0, none⟩) n cy) ∧ n ≤ cy ∧ Oc.BS w' (some ⟨gy, 0, none⟩) F) := fun wx hb => by
      refine (HSv.out wx hb).mono ?_
      rintro e w' ⟨v, rfl, ho, hb⟩
      obtain ⟨gy, cy, rfl, q1, q2, q3, q4, hbs⟩ := ho.form (by rw [← HN.out]; omega)
      rw [← HN.out] at q3 ⊢
      exact ⟨hb, gy, cy, rfl, q3, hbs⟩
    have HR : Hid (∀ wx, Below bk w1 wx → Calls Tryz.prog 12 #[.agg #[.slice aw ws.length cw, .slice am ms.length cm, .slice a A.length ca, .slice b B.length cb, .slice c C.length cc]] wx fun e w' => Below wx.heap.size wx w' ∧ ∃ gy cy, e = .returned (.slice (some ⟨gy, 0, none⟩) n cy) ∧ n ≤ cy ∧ Oc.BS w' (some ⟨gy, 0, none⟩) F) := fun wx hb => by
      have hBB := up wx hb
      refine (hRf wx (HW.out.below hBB) (HM.out.below hBB) (HA.out.below hBB).at' (HB.out.below hBB).at' (HC.out.below hBB).at').mono ?_
      rintro e w' ⟨v, rfl, ho, hb⟩
      obtain ⟨gy, cy, rfl, q1, q2, q3, q4, hbs⟩ := ho.form (by rw [← HN.out]; omega)
      rw [← HN.out] at q3 ⊢
      exact ⟨hb, gy, cy, rfl, q3, hbs⟩
    have HSm : Hid (∀ g1 c1 g2 c2 wx, Oc.BS wx (some ⟨g1, 0, none⟩) F → Oc.BS wx (some ⟨g2, 0, none⟩) F → Calls Tryz.prog 10 #[.slice (some ⟨g1, 0, none⟩) n c1, .slice (some ⟨g2, 0, none⟩) n c2] wx fun e w' => e = .returned (.bool true) ∧ Below wx.heap.size wx w') := fun g1 c1 g2 c2 wx h1 h2 => by
      have h := same_self (some ⟨g1, 0, none⟩) (some ⟨g2, 0, none⟩) c1 c2 F wx (by rw [← HN.out]; omega) h1 h2
      rw [← HN.out] at h
      exact h
    have HK : Hid (∀ wx, Below bk w1 wx → Calls Tryz.prog 9 #[] wx fun e w' => e = .returned (.bool true) ∧ Below wx.heap.size wx w') := fun wx hb => lawKnown_any wx (HG.out.below (up wx hb)) (HP.out.stays (up wx hb))
    have HLd : Hid (∀ wx, Below bk w1 wx → Calls Tryz.prog 14 #[.slice fa l.length fc] wx fun e w' => LoadQ wx w' l e ∧ Below wx.heap.size wx w') := fun wx hb => load_any fa fc l wx hlen hcap (HF.out.below (up wx hb)) (HG.out.below (up wx hb))
    have hI0 := Oc.book_new w1
    have hbb : Below bk w1 (w1.alloc (.cells #[.slice none 0 0, .slice none 0 0, .int .i64 0, .bool false] 58)) := by rw [hbk]; exact box_below w1 (.cells #[.slice none 0 0, .slice none 0 0, .int .i64 0, .bool false] 58)
    have hfl2 : F.length ≤ 140737488355328 := by rw [← HN.out]; omega
    rw [← hbk] at hI0
    obtain ⟨W0, hW0⟩ : ∃ W0, W0 = w1.alloc (.cells #[.slice none 0 0, .slice none 0 0, .int .i64 0, .bool false] 58) := ⟨_, rfl⟩
    rw [← hW0] at hI0 hbb
    have HW0 : Hid (W0 = w1.alloc (.cells #[.slice none 0 0, .slice none 0 0, .int .i64 0, .bool false] 58)) := hW0
    have HBK : Hid (bk = w1.heap.size) := hbk
    clear hp1 hp2 hU hb0 hn hF hn2 hD hK hMd hS hRf hD1 B1 hb1 hbk hW0 up HW HM HA HB HC HMd
    go_wp2_with fail
    rw [← HW0.out, ← HBK.out]
    refine (HSv.out W0 hbb).mono ?_
    rintro e w2 ⟨v1, rfl, hv1, hb2⟩
    have hsz0 : bk ≤ W0.heap.size := Nat.le_of_lt hI0.at_.lt
    obtain ⟨a1, c1, rfl⟩ := hv1.shape
    have hI1 := hI0.over hb2
    have b2 := hbb.trans (hb2.mono hsz0)
    have K1 := Oc.keep_any w2 bk bk _ _ [] _ a1 c1 F hI1 (ownsRow_le hv1 hsz0) (Nat.le_trans hsz0 hb2.size) (by simp) hfl2 (hI0.fresh hv1)
    rw [← HN.out] at K1 ⊢
    clear hI0 hv1 hb2 hbb
    go_wp2_with fail
    refine K1.mono ?_
    rintro e w3 ⟨rfl, hp3⟩
    obtain ⟨vl3, vw3, es3, held3, hpos3, hel3, hI3, hb3⟩ := hp3.use hI1 (Nat.le_refl _) (Nat.le_of_lt hI1.at_.lt)
    have b3 := b2.trans hb3
    have hel3 : es3.length ≤ 1 := by simpa using hel3
    clear K1 hp3 hI1 hb3 b2 hsz0
    go_wp2_with fail
    refine (HSv.out w3 b3).mono ?_
    rintro e w4 ⟨v4, rfl, hv4, hb4⟩
    have hsz3 : bk ≤ w3.heap.size := Nat.le_of_lt hI3.at_.lt
    obtain ⟨a4, c4, rfl⟩ := hv4.shape
    have hI4 := hI3.over hb4
    have b4 := b3.trans (hb4.mono hsz3)
    have K4 := Oc.keep_any w4 bk bk _ _ es3 _ a4 c4 F hI4 (ownsRow_le hv4 hsz3) (Nat.le_trans hsz3 hb4.size) (by omega) hfl2 (hI3.fresh hv4)
    rw [← HN.out] at K4 ⊢
    clear hI3 hv4 hb4 b3
    go_wp2_with fail
    refine K4.mono ?_
    rintro e w5 ⟨rfl, hp5⟩
    obtain ⟨vl5, vw5, es5, held5, hpos5, hel5, hI5, hb5⟩ := hp5.use hI4 (Nat.le_refl _) (Nat.le_of_lt hI4.at_.lt)
    have b5 := b4.trans hb5
    have hel5 : es5.length ≤ 2 := by omega
    have hsz5 : bk ≤ w5.heap.size := Nat.le_of_lt hI5.at_.lt
    clear K4 hp5 hI4 hb5 b4 hsz3 hpos3 hel3
    go_wp2_with fail
    refine (HLd.out w5 b5).mono ?_
    rintro e w6 ⟨hq6, hb6⟩
    have b6 := b5.trans (hb6.mono hsz5)
    have hI6 := hI5.over hb6
    clear hI5 b5
    cases hr : loadR l with
    | error r =>
      obtain ⟨N1, rfl, n1, r1⟩ := loadQ_err hr hq6
      go_wp2_with fail
      refine (HLd.out w6 b6).mono ?_
      rintro e w7 ⟨hq7, hb7⟩
      obtain ⟨N2, rfl, n2, r2⟩ := loadQ_err hr hq7
      have b7 := b6.trans (hb7.mono (Nat.le_trans hsz5 hb6.size))
      have hI7 := hI6.over hb7
      have hSE := sameErr_ne w7 N1 N2 r r (r1.below hb7 r1.lt) r2 (by have := r1.lt; omega)
      clear hq6 hq7 hr r1 r2 n1 n2 hb7 hI6 b6
      go_wp2_with fail
      refine hSE.mono ?_
      rintro e wq ⟨rfl, he⟩
      obtain rfl := he.symm
      clear hSE
      have HAp : Hid (∀ wx, Below w7.heap.size w7 wx → Calls Tryz.prog 24 #[.pointer (some ⟨bk, 0, none⟩), .func (.func 25) #[] #[]] wx fun e w' => e = .returned (.bool true) ∧ Below bk w7 w') := fun wx hb => by
        have hI8 := hI7.over hb
        have h7 : bk ≤ w7.heap.size := Nat.le_of_lt hI7.at_.lt
        refine (Oc.apart_any wx bk bk _ _ es5 _ hI8 hpos5 (by omega) (Nat.le_of_lt hI8.at_.lt) (Nat.le_refl _)).mono ?_
        rintro e w' ⟨rfl, h⟩
        exact ⟨rfl, (hb.mono h7).trans h⟩
      have HB6 : Hid (Below bk w1 w7) := b7
      have HBL : Hid (w.heap.size ≤ bk) := by rw [HBK.out]; exact HBW.out.size
      clear hI7 b7 HLd HSv hel5 hpos5 hsz5 hb6 hfl2 HF HG HP
      go_upto_region 11 with fail
      go_region_with (first
        | (go_at_call 24; refine (HAp.out _ (by first | exact Below.refl _ _ | exact (Below.refl _ _).drew)).mono ?_; rintro e v1 ⟨rfl, r1⟩; have r1 := HB6.out.trans r1; have hd1 := HD.out.below r1 HDL.out; have d0 := hd1.c0; have d1 := hd1.c1; have d2 := hd1.c2; have d3 := hd1.c3; have d4 := hd1.c4; clear hd1)
        | (go_at_call 11; refine (HS.out _ r1).mono ?_; rintro e v2 ⟨hb2, gy, cy, rfl, hcy, hbs2⟩; have r2 := r1.trans (hb2.mono (by have := r1.size; rw [HBK.out]; omega)); have hd2 := HD.out.below r2 HDL.out; have d5 := hd2.c0; have d6 := hd2.c1; have d7 := hd2.c2; have d8 := hd2.c3; have d9 := hd2.c4; clear hd2)
        | (go_at_call 12; refine (HR.out _ r2).mono ?_; rintro e v3 ⟨hb3, gw, cv, rfl, hcv, hbs3⟩; have r3 := r2.trans (hb3.mono (by have := r2.size; rw [HBK.out]; omega)); have hbs2 := hbs2.below hb3)
        | (go_at_call 10; refine (HSm.out _ _ _ _ _ hbs2 hbs3).mono ?_; rintro e v4 ⟨rfl, hb4⟩; have r4 := r3.trans (hb4.mono (by have := r3.size; rw [HBK.out]; omega)))
        | (go_at_call 9; refine (HK.out _ r4).mono ?_; rintro e v5 ⟨rfl, hb5⟩; have r5 := r4.trans (hb5.mono (by have := r4.size; rw [HBK.out]; omega))))
      all_goals
        go_wp2_with fail
        go_ret
        exact ⟨rfl, HBW.out.trans (r5.mono HBL.out)⟩
    | ok r =>
      obtain ⟨g1, rfl, -⟩ := loadQ_ok hr hq6
      go_wp2_with fail
      refine (HLd.out w6 b6).mono ?_
      rintro e w7 ⟨hq7, hb7⟩
      obtain ⟨g2, rfl, -⟩ := loadQ_ok hr hq7
      have b7 := b6.trans (hb7.mono (Nat.le_trans hsz5 hb6.size))
      have hI7 := hI6.over hb7
      clear hq6 hq7 hr hb7 hI6 b6
      have HAp : Hid (∀ wx, Below w7.heap.size w7 wx → Calls Tryz.prog 24 #[.pointer (some ⟨bk, 0, none⟩), .func (.func 25) #[] #[]] wx fun e w' => e = .returned (.bool true) ∧ Below bk w7 w') := fun wx hb => by
        have hI8 := hI7.over hb
        have h7 : bk ≤ w7.heap.size := Nat.le_of_lt hI7.at_.lt
        refine (Oc.apart_any wx bk bk _ _ es5 _ hI8 hpos5 (by omega) (Nat.le_of_lt hI8.at_.lt) (Nat.le_refl _)).mono ?_
        rintro e w' ⟨rfl, h⟩
        exact ⟨rfl, (hb.mono h7).trans h⟩
      have HB6 : Hid (Below bk w1 w7) := b7
      have HBL : Hid (w.heap.size ≤ bk) := by rw [HBK.out]; exact HBW.out.size
      clear hI7 b7 HLd HSv hel5 hpos5 hsz5 hb6 hfl2 HF HG HP
      go_upto_region 11 with fail
      go_region_with (first
        | (go_at_call 24; refine (HAp.out _ (by first | exact Below.refl _ _ | exact (Below.refl _ _).drew)).mono ?_; rintro e v1 ⟨rfl, r1⟩; have r1 := HB6.out.trans r1; have hd1 := HD.out.below r1 HDL.out; have d0 := hd1.c0; have d1 := hd1.c1; have d2 := hd1.c2; have d3 := hd1.c3; have d4 := hd1.c4; clear hd1)
        | (go_at_call 11; refine (HS.out _ r1).mono ?_; rintro e v2 ⟨hb2, gy, cy, rfl, hcy, hbs2⟩; have r2 := r1.trans (hb2.mono (by have := r1.size; rw [HBK.out]; omega)); have hd2 := HD.out.below r2 HDL.out; have d5 := hd2.c0; have d6 := hd2.c1; have d7 := hd2.c2; have d8 := hd2.c3; have d9 := hd2.c4; clear hd2)
        | (go_at_call 12; refine (HR.out _ r2).mono ?_; rintro e v3 ⟨hb3, gw, cv, rfl, hcv, hbs3⟩; have r3 := r2.trans (hb3.mono (by have := r2.size; rw [HBK.out]; omega)); have hbs2 := hbs2.below hb3)
        | (go_at_call 10; refine (HSm.out _ _ _ _ _ hbs2 hbs3).mono ?_; rintro e v4 ⟨rfl, hb4⟩; have r4 := r3.trans (hb4.mono (by have := r3.size; rw [HBK.out]; omega)))
        | (go_at_call 9; refine (HK.out _ r4).mono ?_; rintro e v5 ⟨rfl, hb5⟩; have r5 := r4.trans (hb5.mono (by have := r4.size; rw [HBK.out]; omega))))
      all_goals
        go_wp2_with fail
        go_ret
        exact ⟨rfl, HBW.out.trans (r5.mono HBL.out)⟩
end Go.Proofs.YtplmmamebfpcjaaGreatDoor
end
