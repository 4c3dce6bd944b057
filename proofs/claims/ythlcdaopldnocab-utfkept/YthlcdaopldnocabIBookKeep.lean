/- (*tesserabook.Book).Keep of items: its contract. -/
import Derived.Test.YthlcdaopldnocabIBookKeep1
import Derived.Test.YthlcdaopldnocabURegion
namespace Go.Proofs.Ythlcdaopldnocab
open Go.RowKit
open Go.Joins
/-- What Keep leaves: the last ones of what was kept and of the new one. -/
def KeepPost (w : World) (base B : Nat) (vl vw : Value) (es : List Ent) (v : Value) (l : List It) (w' : World) : Prop :=
  ∃ vl' vw' es' held' u, 0 < es'.length ∧ es' <:+ es ++ [⟨v, u, l⟩] ∧ BookInv w' base B vl' vw' es' held' ∧ Went w B vl vw w' vl' vw'
set_option maxRecDepth 100000 in
set_option maxHeartbeats 16000000 in
theorem keep_any (w : World) (base B : Nat) (vl vw : Value) (es : List Ent) (held : Int) (a : Option Addr) (c : Nat) (l : List It) (hI : BookInv w base B vl vw es held) (hv : OwnI 29 w base (.slice a l.length c) l) (hbase : base ≤ w.heap.size) (hes : es.length ≤ 3999) (hl : l.length * 24 ≤ 140737488355328)
    (hnew : ∀ e ∈ es, ∀ g, e.v.ownBlock = some g → (Value.slice a l.length c).ownBlock ≠ some g) :
    Calls Try.prog 10 #[.pointer (some ⟨B, 0, none⟩), .slice a l.length c] w fun e w' => e = .returned (.tuple #[]) ∧ KeepPost w base B vl vw es (.slice a l.length c) l w' := by
  have hI' := hI
  obtain ⟨hA, hL, hW, hE, h2, hP⟩ := hI'
  have hc0 := hA.c0
  have hBlt := hA.lt
  -- lists = append(lists, l)
  obtain ⟨vl1, w1, hr1, hL1, hg1, hb1⟩ := run_push (w.alloc (.cells #[.slice a l.length c] 25)) base vl (es.map Ent.v) (.slice a l.length c) w.heap.size 1 rfl (hL.kept fun g hg => heap_alloc_old w _ (hL.lt g hg).2)
    (by rw [World.cell?_alloc_at _ _ _ _ rfl]; rfl) (by simp; omega) (by simp; omega)
  have hA1 : BookAt w1 B vl vw held := hA.kept (by
    rw [hg1.block B (by simp; omega) (by
      intro e; obtain ⟨_, cur, hh⟩ := hL.block e.symm
      exact apart_types hA hh (by decide) rfl)]
    exact heap_alloc_old w _ hBlt)
  have hf1 := hA1.free 0
  have hc10 := hA1.c0
  obtain ⟨gl, ol, cl, rfl, hgl1, hgl2, hcl, _, _⟩ := hL1.form (by simp)
  obtain ⟨n1, hn1⟩ : ∃ n, n = (es.map Ent.v ++ [Value.slice a l.length c]).length := ⟨_, rfl⟩
  rw [← hn1] at hr1 hL1 hb1 hcl
  have HN1 : Hid (n1 = es.length + 1) := hn1.trans (by simp)
  clear hn1
  have hA2 := hA1.set0 (.slice (some ⟨gl, ol, none⟩) n1 cl)
  obtain ⟨w2, hw2⟩ : ∃ w2, w2 = w1.setCell ⟨B, 0, none⟩ (.slice (some ⟨gl, ol, none⟩) n1 cl) := ⟨_, rfl⟩
  rw [← hw2] at hA2
  go_enter Try.func10, Try.ntmps10
  go_wp2_with (at_builtin; refine wpList_append_run rfl (.tmp 8) (.tmp 10) 34 34 rfl _ _ rfl rfl _ w1 hr1 ?_; clear hr1)
  rw [← hw2]
  have HW2 : Hid (w2 = w1.setCell ⟨B, 0, none⟩ (.slice (some ⟨gl, ol, none⟩) n1 cl)) := hw2
  obtain ⟨q1, q2, q3, q4, q5⟩ := book_push_lists hI hL1 hg1 hb1
  rw [← hw2] at q2 q3 q4
  have HV : OwnI 29 w2 base (.slice a l.length c) l := hI.keeps q4.only hv
  have HX := copy_step w2 base a c l HV hl
  have d1 := hA2.c1
  have d2 := hA2.free 1
  clear hw2
  go_cut [] (fun wr => ∃ vw1 u, BookInv wr base B (.slice (some ⟨gl, ol, none⟩) n1 cl) vw1 (es ++ [⟨.slice a l.length c, u, l⟩]) held ∧ Went w B vl vw wr (.slice (some ⟨gl, ol, none⟩) n1 cl) vw1)
  case first =>
    have hus : (es.map Ent.u).length ≤ 1000000 := by rw [List.length_map]; omega
    have hb2 : base ≤ w2.heap.size := Nat.le_trans hbase q4.only.size
    have hE2 : ∀ e ∈ es, OwnI 29 w2 base e.v e.l ∧ OwnI 29 w2 base e.u e.l := fun e he => ⟨hI.keeps q4.only (hE e he).1, hI.keeps q4.only (hE e he).2⟩
    have HP : Hid (∀ (u vw1 : Value) (w3 w5 : World), R1 w2 l u w3 → R2 w3 base vw (es.map Ent.u ++ [u]) vw1 w5 → BookAt w5 B (.slice (some ⟨gl, ol, none⟩) n1 cl) vw held ∧ BookInv (w5.setCell ⟨B, 1, none⟩ vw1) base B (.slice (some ⟨gl, ol, none⟩) n1 cl) vw1 (es ++ [⟨.slice a l.length c, u, l⟩]) held ∧ Went w2 B (.slice (some ⟨gl, ol, none⟩) n1 cl) vw (w5.setCell ⟨B, 1, none⟩ vw1) (.slice (some ⟨gl, ol, none⟩) n1 cl) vw1) :=
      fun u vw1 w3 w5 r1 r2 => book_push_was hA2 q2 q3 hE2 HV q5 hP hnew r1.2.2 r1.2.1 hb2 r2.2.1 r2.2.2.1 r2.2.2.2
    have HY : Hid (∀ (u : Value) (w3 : World), R1 w2 l u w3 → ∀ W, Like (w3.alloc (.cells #[u] 25)) W → ∃ vw1 w5, (Builtin.append_ #[34, 34] 34 #[vw, .slice (some ⟨w3.heap.size, 0, none⟩) 1 1]).run Try.prog W = .ok vw1 w5 ∧ R2 w3 base vw (es.map Ent.u ++ [u]) vw1 w5) := by
      intro u w3 r1
      obtain ⟨⟨au, cu, rfl⟩, _, ho⟩ := r1
      exact was_step w3 base vw _ _ w3.heap.size rfl (q3.kept fun g hg => ho.block g (q3.lt g hg).2 (fun h => h)) rfl (Nat.le_trans hb2 ho.size) hus
    have HA : Hid (∀ (w3 : World), (Only w2 w3 fun _ => False) → BookAt w3 B (.slice (some ⟨gl, ol, none⟩) n1 cl) vw held) := fun w3 ho => hA2.kept (ho.block B hA2.lt (fun h => h))
    clear hE2 hus hE q2 q3 hP hnew hA1 hL hW hI hA hv HV hb1 hg1 hL1
    go_region_law (first
      | (refine step_append_ex rfl (.tmp 18) (.tmp 21) 34 34 rfl vw (.slice (some ⟨w3.heap.size, 0, none⟩) 1 1) rfl rfl (R2 w3 base vw (es.map Ent.u ++ [.slice au l.length cu])) (HY.out (.slice au l.length cu) w3 r1 _ (by first | exact Like.refl _ | exact (Like.refl _).drew)) ?_; rintro vw1 w5 r2; have r2' := r2; obtain ⟨⟨g5, o5, c5, rfl⟩, hs5, ho5, hb5⟩ := r2'; have r3 := HP.out _ _ _ _ r1 r2; have e2 := r3.1.c1; have e3 := r3.1.free 1)
      | (refine step_append_ex rfl (.const (.slice none 0 0)) (.tmp 19) 25 25 rfl (.slice none 0 0) (.slice a l.length c) rfl rfl (R1 w2 l) (HX _ (by first | exact Like.refl _ | exact (Like.refl _).drew)) ?_; rintro u w3 r1; have r1' := r1; obtain ⟨⟨au, cu, rfl⟩, hu3, ho3⟩ := r1'; have e1 := (HA.out w3 ho3).c1; have e5 := (HA.out w3 ho3).lt))
    all_goals
      go_wp2_with fail
      go_meet
    all_goals
      have r4 := r3.2
      simp only [List.length_append, List.length_map, List.length_cons, List.length_nil, Nat.zero_add] at r4
      exact ⟨_, _, r4.1, q4.trans r4.2⟩
  case rest =>
    obtain ⟨vw1, u, hI1, hw1⟩ := hcut
    clear hI hA hL hW hE h2 hP hc0 hBlt hg1 hA1 hf1 hc10 hgl1 hgl2 hcl hb1 hL1 hA2 HW2 q1 q2 q3 q5 HV HX d1 d2 hnew
    have b2 := hI1.at_.c2
    have f2 := hI1.at_.free 2
    go_wp2
    have hI2 := hI1.move (Only.set B 2 (.int .i64 (wrap64 (wrap64 (held + c) + 1))) rfl) (hI1.at_.set2 (wrap64 (wrap64 (held + c) + 1)))
    have hw2 := hw1.move (Only.set B 2 (.int .i64 (wrap64 (wrap64 (held + c) + 1))) rfl) rfl rfl
    obtain ⟨X, hX⟩ : ∃ X, X = es ++ [⟨.slice a l.length c, u, l⟩] := ⟨_, rfl⟩
    rw [← hX] at hI2
    have hX0 : 0 < X.length := by rw [hX]; simp
    have HXS : Hid (X = es ++ [⟨.slice a l.length c, u, l⟩]) := hX
    have HXL : Hid (X.length ≤ 4000) := (show X.length ≤ 4000 by rw [hX]; simp; omega)
    clear hI1 hw1 b2 f2 hX q4 hbase
    go_loopg [] X.length (fun k wr => ∃ (vlr vwr : Value) (es' : List Ent) (held' : Int), es'.length = k ∧ 0 < k ∧ es' <:+ X ∧ BookInv wr base B vlr vwr es' held' ∧ Went w B vl vw wr vlr vwr)
    case atStart => exact ⟨_, _, X, _, rfl, hX0, List.suffix_refl X, hI2, hw2⟩
    case round =>
      obtain ⟨vlr, vwr, es', held', hk, hk0, hsuf, hIr, hwr⟩ := hrel
      obtain ⟨gl', ol', cl', rfl, hgl1, hgl2, hcl', hclm, hlc⟩ := hIr.lists.form (by rw [List.length_map]; omega)
      obtain ⟨gw', ow', cw', rfl, hgw1, hgw2, hcw', hcwm, hwc⟩ := hIr.was.form (by rw [List.length_map]; omega)
      simp only [List.length_map, hk] at hIr hwr hcl' hcw'
      have b0 := hIr.at_.c0
      have b1 := hIr.at_.c1
      have b2 := hIr.at_.c2
      have b3 := hIr.at_.c3
      have hgkX : gk ≤ 4000 := Nat.le_trans (by rw [← hk]; exact hsuf.length_le) HXL.out
      have hgl0 : gk ≤ 9223372036854775807 := by omega
      rcases (show (¬ 1 < gk) ∨ (1 < gk ∧ ¬ 1000000 < held' ∧ ¬ 4000 < gk) ∨ (1 < gk ∧ 1000000 < held') by omega) with hm | ⟨hm, hh, h4⟩ | hc
      · go_wp2
        go_end0
        exact ⟨rfl, _, _, es', held', u, by omega, by rw [← HXS.out]; exact hsuf, hIr, hwr⟩
      · go_wp2
        go_end0
        exact ⟨rfl, _, _, es', held', u, by omega, by rw [← HXS.out]; exact hsuf, hIr, hwr⟩
      all_goals
        cases es' with
        | nil => simp at hk; omega
        | cons e0 rest =>
          have hk' : rest.length + 1 = gk := by simpa using hk
          have c0 := hlc 0 (by simp)
          have c1 := hwc 0 (by simp)
          simp only [List.map_cons, List.getElem_cons_zero, Nat.add_zero] at c0 c1
          obtain ⟨ho0, ho1⟩ := hIr.ents e0 (List.mem_cons_self ..)
          obtain ⟨v0, u0, l0⟩ := e0
          obtain ⟨a0, k0, hv0⟩ := ho0.shape
          obtain ⟨a1, k1, hu0⟩ := ho1.shape
          simp only at hv0 hu0 ho0 ho1 c0 c1
          subst hv0
          subst hu0
          clear hlc hwc
          have HS := same_step_like (wr := wr) ho0 ho1
          have HF : Hid (∀ w5, (Only wr w5 fun _ => False) → BookInv (w5.setCell ⟨B, 3, none⟩ (.bool false)) base B (.slice (some ⟨gl', ol', none⟩) gk cl') (.slice (some ⟨gw', ow', none⟩) gk cw') (⟨.slice a0 l0.length k0, .slice a1 l0.length k1, l0⟩ :: rest) held' ∧ Went w B vl vw (w5.setCell ⟨B, 3, none⟩ (.bool false)) (.slice (some ⟨gl', ol', none⟩) gk cl') (.slice (some ⟨gw', ow', none⟩) gk cw')) := fun w5 ho => by
            have ho' : Only wr w5 fun k => k = B := ho.wider (fun _ h => h.elim)
            have hA := hIr.at_.kept (ho.block B hIr.at_.lt (fun h => h))
            have h1 := hIr.move ho' hA
            have h2 := Only.set (S := fun k => k = B) (w := w5) B 3 (.bool false) rfl
            exact ⟨h1.move h2 hA.set3, (hwr.move ho' rfl rfl).move h2 rfl rfl⟩
          have HA5 : Hid (∀ w5, (Only wr w5 fun _ => False) → BookAt w5 B (.slice (some ⟨gl', ol', none⟩) gk cl') (.slice (some ⟨gw', ow', none⟩) gk cw') held') := fun w5 ho => hIr.at_.kept (ho.block B hIr.at_.lt (fun h => h))
          go_wp2
          go_cut [] (fun wx => BookInv wx base B (.slice (some ⟨gl', ol', none⟩) gk cl') (.slice (some ⟨gw', ow', none⟩) gk cw') (⟨.slice a0 l0.length k0, .slice a1 l0.length k1, l0⟩ :: rest) held' ∧ Went w B vl vw wx (.slice (some ⟨gl', ol', none⟩) gk cl') (.slice (some ⟨gw', ow', none⟩) gk cw'))
          case first =>
            go_region_with (go_at_call 18; refine (HS.out _ (by first | exact Like.refl _ | exact (Like.refl _).drew)).mono ?_; rintro e w5 ⟨rfl, ho5⟩; have hA5 := HA5.out w5 ho5; have z1 := hA5.c3; have z2 := hA5.free 3)
            all_goals
              go_wp2_with fail
              go_meet
            all_goals exact HF.out w5 ho5
          case rest =>
            obtain ⟨hI5, hw5⟩ := hcut
            have y0 := hI5.at_.c0
            have y2 := hI5.at_.c2
            have y3 := hI5.at_.free 2
            have y4 := hI5.lists.form (by simp)
            obtain ⟨_, _, _, hyv, -, -, -, -, hyc⟩ := y4
            simp only [List.map_cons, List.length_cons, List.length_map, Value.slice.injEq, Option.some.injEq, Addr.mk.injEq, and_true] at hyv
            obtain ⟨⟨rfl, rfl⟩, -, rfl⟩ := hyv
            have y5 := hyc 0 (by simp)
            simp only [List.map_cons, List.getElem_cons_zero, Nat.add_zero] at y5
            clear hyc
            go_wp2
            go_region
            obtain ⟨w6, hw6⟩ : ∃ x, x = (wc.setCell ⟨B, 2, none⟩ (.int .i64 (wrap64 (wrap64 (held' - k0) - 1)))).drew := ⟨_, rfl⟩
            have hO6 : Only wc w6 fun k => k = B := by
              have h := Only.set (S := fun k => k = B) (w := wc) B 2 (.int .i64 (wrap64 (wrap64 (held' - k0) - 1))) rfl
              rw [hw6]; exact ⟨h.os, h.tape, h.output, h.size, h.block⟩
            have hI6 := hI5.move hO6 (by rw [hw6]; exact hI5.at_.set2 (wrap64 (wrap64 (held' - k0) - 1)))
            have hw6' := hw5.move hO6 rfl rfl
            rw [← hw6]
            have m0 := hI6.at_.c0
            have m1 := hI6.at_.c1
            have n0 := hI6.at_.free 0
            have n1' := hI6.at_.free 1
            clear hw6 hO6 y0 y2 y3 y5 hI5 hw5
            have hgcl : 1 < cl' := by omega
            have hgcw : 1 < cw' := by omega
            have hO7 : Only w6 ((w6.setCell ⟨B, 0, none⟩ (.slice (some ⟨gl', ol' + 1, none⟩) rest.length (cl' - 1))).setCell ⟨B, 1, none⟩ (.slice (some ⟨gw', ow' + 1, none⟩) rest.length (cw' - 1))) fun k => k = B :=
              (Only.set (S := fun k => k = B) B 0 _ rfl).trans (Only.set (S := fun k => k = B) B 1 _ rfl) (fun _ _ h => h)
            have hI7 := hI6.cut hk'.symm hk'.symm hO7 ((hI6.at_.set0 _).set1 _)
            have hw7 := hw6'.move (vl2 := .slice (some ⟨gl', ol' + 1, none⟩) rest.length (cl' - 1)) (vw2 := .slice (some ⟨gw', ow' + 1, none⟩) rest.length (cw' - 1)) hO7 rfl rfl
            have e : rest.length = gk - 1 := by omega
            have HE : Hid (rest.length = gk - 1) := e
            rw [e] at hI7 hw7
            clear hI6 hw6' hO7 e
            have HK : Hid (rest.length + 1 = gk) := hk'
            have hsuf' : rest <:+ X := (List.suffix_cons _ _).trans hsuf
            clear hk hk' hsuf HS HA5 ho0 ho1 hIr hwr
            go_wp2
            go_roundg (gk - 1)
            case measure => omega
            case rel => exact ⟨_, _, rest, _, HE.out, by omega, hsuf', hI7, hw7⟩
end Go.Proofs.Ythlcdaopldnocab
