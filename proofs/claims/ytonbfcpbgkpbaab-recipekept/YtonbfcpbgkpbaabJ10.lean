import Derived.Test.YtonbfcpbgkpbaabJ9
import Derived.Test.YtonbfcpbgkpbaabJ7
section
/- recipe's parser.meaning: its contract. -/
namespace Go.Proofs.Ytonbfcpbgkpbaab
open Go.RowKit Go.Sort Go.Joins
set_option linter.unusedVariables false
set_option linter.unusedSimpArgs false
set_option maxRecDepth 100000
/-- What meaning leaves behind. -/
def MeanPost (w : World) (g : Nat) (z : PZ) (R : Except (Nat × Nat) MD) (e : Ending) (w' : World) : Prop :=
  e = .returned (.tuple #[]) ∧ But g w.heap.size w w' ∧ match R with
  | .error y => ∃ m, PB w' g { z with M0 := m, at' := y.1, why := y.2 }
  | .ok md => ∃ a m, PB w' g { z with W0 := a, M0 := m } ∧ OwnG 9 1 encS1 w' w.heap.size a md.W ∧ OwnG 47 3 encG w' w.heap.size m md.M
/-- What stands between two merges. -/
structure MI (w : World) (g wb mb cb base : Nat) (z : PZ) (r0 : List Wr) (R : Except (Nat × Nat) MD) (k : Nat) (md : MD) (m : Value) (wr : World) : Prop where
  hP : PB wr g { z with M0 := m }
  hR : OwnG 90 9 encW wr 0 z.M r0
  hW : WB wr wb md.W
  hL : md.W.length = r0.length
  hM : ∃ n, n ≤ k ∧ MapS wr mb n (FM md.made)
  hC : wr.heap[cb]? = some (.cells #[.map (some mb)] 86 (0, 0))
  hO : OwnG 47 3 encG wr base m md.M
  hml : md.M.length = k
  hB : But g w.heap.size w wr
  hz : base ≤ wr.heap.size
  hF : meanF (r0.drop k) md = R
theorem meanF_next {r0 : List Wr} {k : Nat} {md : MD} {R : Except (Nat × Nat) MD} {x : Wr} (h : meanF (r0.drop k) md = R) (hx : r0[k]? = some x) : (match meanP x md with | .error e => .error e | .ok d' => meanF (r0.drop (k + 1)) d') = R := by
  obtain ⟨hk, he⟩ := List.getElem?_eq_some_iff.1 hx
  rw [List.drop_eq_getElem_cons hk, he] at h
  exact h
theorem MI.below {w : World} {g wb mb cb base : Nat} {z : PZ} {r0 : List Wr} {R : Except (Nat × Nat) MD} {k : Nat} {md : MD} {m : Value} {wr wx : World} (h : MI w g wb mb cb base z r0 R k md m wr) (hb : Below wr.heap.size wr wx) (hw : w.heap.size ≤ wr.heap.size) : MI w g wb mb cb base z r0 R k md m wx := by
  obtain ⟨hP, hR, hW, hL, ⟨n, hn, hM⟩, hC, hO, hml, hB, hz, hF⟩ := h
  exact ⟨hP.below hb hP.lt, hR.below hb (Nat.le_refl _), (hb.block _ (Array.getElem?_eq_some_iff.1 hW).1).trans hW, hL, ⟨n, hn, hM.kept (hb.block _ hM.lt)⟩, (hb.block _ (Array.getElem?_eq_some_iff.1 hC).1).trans hC, hO.below hb (Nat.le_refl _), hml, hB.trans (But.of_below (hb.mono hw)), Nat.le_trans hz hb.size, hF⟩
/-- A merge as it is written lies at block b. -/
def XM (w : World) (b : Nat) (x : Wr) : Prop := w.heap[b]? = some (.cells #[.int .i64 (x.l.k : Nat), .int .i64 (x.l.at' : Nat), .string (textOf x.l.s), .int .i64 (x.r.k : Nat), .int .i64 (x.r.at' : Nat), .string (textOf x.r.s), .int .i64 (x.i.k : Nat), .int .i64 (x.i.at' : Nat), .string (textOf x.i.s)] 90 (0, 0))
set_option maxHeartbeats 2000000 in
theorem meaning_any (g base0 : Nat) (z : PZ) (r0 : List Wr) (w : World) (h : PB w g z) (hM0 : z.M0 = .slice none 0 0) (hown : OwnG 90 9 encW w base0 z.M r0) (hg : g < base0) (hbase : base0 ≤ w.heap.size) (hok : ∀ x ∈ r0, WrOk 4194304 x) (hle : r0.length ≤ 4194305) :
    Calls Try.prog 19 #[.pointer (some ⟨g, 0, none⟩)] w (MeanPost w g z (meanF r0 ⟨List.replicate r0.length [], [], []⟩)) := by
  obtain ⟨R, hR⟩ : ∃ R, R = meanF r0 ⟨List.replicate r0.length [], [], []⟩ := ⟨_, rfl⟩
  rw [← hR]
  have HR := Lib.hid hR
  have hlt := h.lt
  obtain ⟨ma, mc, hmv⟩ := hown.slice
  have HO0 := Lib.hid hown
  have HOK := Lib.hid hok
  obtain ⟨N, hN⟩ : ∃ N, N = r0.length := ⟨_, rfl⟩
  have HN := Lib.hid hN
  have HLT := Lib.hid hlt
  have HG := Lib.hid hg
  have HBA := Lib.hid hbase
  have hmk := fun u => run_makeT u N (by omega)
  obtain ⟨C0, hC0⟩ : ∃ C0, C0 = ((List.replicate N ([] : List UInt8)).map fun s => Value.string (textOf s)).toArray := ⟨_, rfl⟩
  rw [← hC0] at hmk
  have HC0 := Lib.hid hC0
  have hmm := @run_makeMap Try.prog
  have hmf : ∀ (fn : Fn) (first cap : Array Value) (w : World), (Instr.makeFunc fn first cap).run Try.prog w = .ok (.func fn first cap) w := fun _ _ _ _ => rfl
  have HZ := Lib.hid h
  have b0 := box_below w (.cells C0 9)
  have b1 := b0.trans ((box_below (w.alloc (.cells C0 9)) (.map #[] 0)).mono b0.size)
  have b2 := b1.trans ((box_below ((w.alloc (.cells C0 9)).alloc (.map #[] 0)) (.cells #[.map (some (w.heap.size + 1))] 86)).mono b1.size)
  have hP2 := h.below b2 hlt
  have c5 := h.c5
  have d5 := hP2.c5
  rw [hmv, ← hN] at c5 d5
  have HMV : Hid (z.M = .slice ma N mc) := Lib.hid (by rw [hmv, hN])
  have hI : MI w g w.heap.size (w.heap.size + 1) (w.heap.size + 1 + 1) (w.heap.size + 1 + 1 + 1) z r0 R 0 ⟨List.replicate N [], [], []⟩ (.slice none 0 0) (((w.alloc (.cells C0 9)).alloc (.map #[] 0)).alloc (.cells #[.map (some (w.heap.size + 1))] 86)) := by
    refine ⟨?_, (OwnG.below hown b2 (Nat.le_refl _)).base_le (Nat.zero_le _), ?_, by simp [hN], ⟨0, Nat.le_refl _, ?_⟩, ?_, OwnG.nil _ _ _ _ _, rfl, .of_below b2, by simp, ?_⟩
    · have e : ({ z with M0 := .slice none 0 0 } : PZ) = z := by rw [← hM0]
      rw [e]; exact hP2
    · unfold WB
      rw [← hC0]
      exact (((box_below ((w.alloc (.cells C0 9)).alloc (.map #[] 0)) (.cells #[.map (some (w.heap.size + 1))] 86)).block _ (by simp; omega)).trans ((box_below (w.alloc (.cells C0 9)) (.map #[] 0)).block _ (by simp))).trans (heap_alloc_new _ _)
    · have hm := MapS.made (w.alloc (.cells C0 9))
      rw [show (w.alloc (.cells C0 9)).heap.size = w.heap.size + 1 by simp] at hm
      exact hm.kept ((box_below ((w.alloc (.cells C0 9)).alloc (.map #[] 0)) _).block _ (by simp))
    · have := heap_alloc_new ((w.alloc (.cells C0 9)).alloc (.map #[] 0)) (.cells #[.map (some (w.heap.size + 1))] 86)
      rwa [show ((w.alloc (.cells C0 9)).alloc (.map #[] 0)).heap.size = w.heap.size + 1 + 1 by simp] at this
    · rw [hR, hN]; rfl
  have HI := Lib.hid hI
  clear hR hown hok hN hg hbase hC0 hmv h b0 b1 b2 hP2 hI hlt
  go_enter Try.func19, Try.ntmps19
  go_wp2_with fail
  obtain ⟨Y, hY⟩ : ∃ Y, Y = ((w.alloc (.cells C0 9)).alloc (.map #[] 0)).alloc (.cells #[.map (some (w.heap.size + 1))] 86) := ⟨_, rfl⟩
  have HI2 : Hid (MI w g w.heap.size (w.heap.size + 1) (w.heap.size + 1 + 1) (w.heap.size + 1 + 1 + 1) z r0 R 0 ⟨List.replicate N [], [], []⟩ (.slice none 0 0) Y) := by rw [hY]; exact HI
  rw [← hY]
  clear hY HI c5 d5 hmk hmm hmf
  obtain ⟨wb, hwb⟩ : ∃ wb, wb = w.heap.size := ⟨_, rfl⟩
  have HWB := Lib.hid hwb
  rw [← hwb] at HI2 ⊢
  obtain ⟨mb, hmb⟩ : ∃ mb, mb = wb + 1 := ⟨_, rfl⟩
  have HMB := Lib.hid hmb
  rw [← hmb] at HI2 ⊢
  obtain ⟨cb, hcb⟩ : ∃ cb, cb = mb + 1 := ⟨_, rfl⟩
  have HCB := Lib.hid hcb
  rw [← hcb] at HI2 ⊢
  clear hwb hmb hcb
  go_loopw [26] (fun i wr => ∃ k md m, k ≤ N ∧ i = .int .i64 (k : Nat) ∧ MI w g wb mb cb (cb + 1) z r0 R k md m wr) (fun i _ => N - (intOf i).toNat)
  case atStart => exact ⟨0, _, _, Nat.zero_le _, rfl, HI2.out⟩
  case round =>
    obtain ⟨k, md, m, hk, rfl, hI⟩ := hrel
    have HI := Lib.hid hI
    by_cases hlt : k < N
    · obtain ⟨x, hx⟩ : ∃ x, r0[k]? = some x := ⟨_, List.getElem?_eq_getElem (by rw [← HN.out]; exact hlt)⟩
      have g0 : decide ((k : Int) < (N : Int)) = true := decide_eq_true (by omega)
      have hwo := HOK.out x (List.mem_of_getElem? hx)
      have hRr := hI.hR
      rw [HMV.out, HN.out] at hRr
      obtain ⟨rb, rfl, -, hrb, hc⟩ := OwnG.row (k := 9) (enc := encW) encW_length hRr hx
      have c0 : wr.cell? ⟨rb, k * 9, none⟩ = some (.int .i64 (x.l.k : Nat)) := (hc 0 (by omega)).trans rfl
      have c1 : wr.cell? ⟨rb, k * 9 + 1, none⟩ = some (.int .i64 (x.l.at' : Nat)) := (hc 1 (by omega)).trans rfl
      have c2 : wr.cell? ⟨rb, k * 9 + 2, none⟩ = some (.string (textOf x.l.s)) := (hc 2 (by omega)).trans rfl
      have c3 : wr.cell? ⟨rb, k * 9 + 3, none⟩ = some (.int .i64 (x.r.k : Nat)) := (hc 3 (by omega)).trans rfl
      have c4 : wr.cell? ⟨rb, k * 9 + 4, none⟩ = some (.int .i64 (x.r.at' : Nat)) := (hc 4 (by omega)).trans rfl
      have c5 : wr.cell? ⟨rb, k * 9 + 5, none⟩ = some (.string (textOf x.r.s)) := (hc 5 (by omega)).trans rfl
      have c6 : wr.cell? ⟨rb, k * 9 + 6, none⟩ = some (.int .i64 (x.i.k : Nat)) := (hc 6 (by omega)).trans rfl
      have c7 : wr.cell? ⟨rb, k * 9 + 7, none⟩ = some (.int .i64 (x.i.at' : Nat)) := (hc 7 (by omega)).trans rfl
      have c8 : wr.cell? ⟨rb, k * 9 + 8, none⟩ = some (.string (textOf x.i.s)) := (hc 8 (by omega)).trans rfl
      have HX := Lib.hid hx
      have HWO := Lib.hid hwo
      have HRB := Lib.hid hrb
      clear hI hRr hc hx hwo hrb
      go_wp2_with fail
      obtain ⟨V, hV⟩ : ∃ V, V = wr.alloc (.cells #[.int .i64 (x.l.k : Nat), .int .i64 (x.l.at' : Nat), .string (textOf x.l.s), .int .i64 (x.r.k : Nat), .int .i64 (x.r.at' : Nat), .string (textOf x.r.s), .int .i64 (x.i.k : Nat), .int .i64 (x.i.at' : Nat), .string (textOf x.i.s)] 90) := ⟨_, rfl⟩
      have hXM : XM V wr.heap.size x := by rw [hV]; exact heap_alloc_new wr _
      have hbx : Below wr.heap.size wr V := by rw [hV]; exact box_below wr _
      have hI1 := HI.out.below hbx HI.out.hB.size
      rw [← hV]
      obtain ⟨xb, hxb⟩ : ∃ xb, xb = wr.heap.size := ⟨_, rfl⟩
      rw [← hxb] at hXM ⊢
      have HXB := Lib.hid hxb
      have HXM := Lib.hid hXM
      have HI1 := Lib.hid hI1
      have hxlt : xb < V.heap.size := (Array.getElem?_eq_some_iff.1 hXM).1
      have HXL := Lib.hid hxlt
      obtain ⟨n, hn, hMS⟩ := hI1.hM
      have hcc : V.cell? ⟨cb, 0, none⟩ = some (.map (some mb)) := (cell_of_block hI1.hC 0).trans rfl
      have hnx := meanF_next hI1.hF HX.out
      have H1 := idOf_any cb mb n md.made x.l.s V (by have := HWO.out.1; omega) hMS hcc
      have H2 := idOf_any cb mb n md.made x.r.s V (by have := HWO.out.2.1; omega) hMS hcc
      have hPP := hI1.hP
      have HPR := fun p y => prefuse_any g _ p y V hPP
      unfold meanP at hnx
      have y1 : V.cell? ⟨xb, 1, none⟩ = some (.int .i64 (x.l.at' : Nat)) := (cell_of_block hXM 1).trans rfl
      have y2 : V.cell? ⟨xb, 2, none⟩ = some (.string (textOf x.l.s)) := (cell_of_block hXM 2).trans rfl
      have y4 : V.cell? ⟨xb, 4, none⟩ = some (.int .i64 (x.r.at' : Nat)) := (cell_of_block hXM 4).trans rfl
      have y5 : V.cell? ⟨xb, 5, none⟩ = some (.string (textOf x.r.s)) := (cell_of_block hXM 5).trans rfl
      have y7 : V.cell? ⟨xb, 7, none⟩ = some (.int .i64 (x.i.at' : Nat)) := (cell_of_block hXM 7).trans rfl
      have y8 : V.cell? ⟨xb, 8, none⟩ = some (.string (textOf x.i.s)) := (cell_of_block hXM 8).trans rfl
      have f0 := fun j => unfrozen_of_block hXM j
      clear c0 c1 c2 c3 c4 c5 c6 c7 c8 hV hbx hI1 hxb hXM hxlt hn hMS hcc hPP
      refine H1.mono ?_
      rintro e w1 ⟨rfl, he⟩
      obtain rfl := he.symm
      cases hA : idOfP md.made x.l.s with
      | none =>
        rw [hA] at hnx
        have HRR := Lib.hid hnx
        clear H1 H2 hnx hA
        go_wp2_with fail
        refine (HPR _ _).mono ?_
        rintro e w2 ⟨rfl, hP2, hb2⟩
        go_wp2_with fail
        refine bodyPost_end (results_none rfl _ _ _) rfl ?_
        rw [← HRR.out]
        exact ⟨rfl, HI1.out.hB.trans (hb2.mono HI1.out.hB.size), m, hP2⟩
      | some a =>
        rw [hA] at hnx
        simp only at hnx
        have HA := Lib.hid hA
        clear hA H1
        go_wp2_with fail
        refine H2.mono ?_
        rintro e w1 ⟨rfl, he⟩
        obtain rfl := he.symm
        cases hB : idOfP md.made x.r.s with
        | none =>
          rw [hB] at hnx
          have HRR := Lib.hid hnx
          clear H2 hnx hB
          go_wp2_with fail
          refine (HPR _ _).mono ?_
          rintro e w2 ⟨rfl, hP2, hb2⟩
          go_wp2_with fail
          refine bodyPost_end (results_none rfl _ _ _) rfl ?_
          rw [← HRR.out]
          exact ⟨rfl, HI1.out.hB.trans (hb2.mono HI1.out.hB.size), m, hP2⟩
        | some b =>
          rw [hB] at hnx
          simp only at hnx
          have HBB := Lib.hid hB
          clear hB H2 HPR
          have hvl := val_small HWO.out.2.2.1 HWO.out.2.2.2
          have HV := valueOf_any (textOf x.i.s) 10 (by omega) (by have := HWO.out.2.2.1; simpa [textOf, ByteArray.size] using this) (by simpa [tl, textOf] using HWO.out.2.2.2) V
          rw [show tl (textOf x.i.s) = x.i.s by simp [tl, textOf]] at HV
          generalize valF 10 0 x.i.s = v at *
          have HVL := Lib.hid hvl
          have HNX := Lib.hid hnx
          clear hnx
          go_wp2_with fail
          refine HV.mono ?_
          rintro e V2 ⟨rfl, hb2⟩
          have hI2 := HI1.out.below hb2 HI1.out.hB.size
          have hX2 : XM V2 xb x := (hb2.block _ HXL.out).trans HXM.out
          have hPP := hI2.hP
          have HPR := fun p y => prefuse_any g _ p y V2 hPP
          have y1 : V2.cell? ⟨xb, 1, none⟩ = some (.int .i64 (x.l.at' : Nat)) := (cell_of_block hX2 1).trans rfl
          have y2 : V2.cell? ⟨xb, 2, none⟩ = some (.string (textOf x.l.s)) := (cell_of_block hX2 2).trans rfl
          have y5 : V2.cell? ⟨xb, 5, none⟩ = some (.string (textOf x.r.s)) := (cell_of_block hX2 5).trans rfl
          have y7 : V2.cell? ⟨xb, 7, none⟩ = some (.int .i64 (x.i.at' : Nat)) := (cell_of_block hX2 7).trans rfl
          have f0 := fun j => unfrozen_of_block hX2 j
          have hLL := hI2.hL
          have hWW := hI2.hW
          rw [← HN.out] at hLL
          have HI2 := Lib.hid hI2
          have HX2 := Lib.hid hX2
          clear HV hb2 hX2 hPP hI2
          have hbad : (v < 256 ∨ N ≤ v - 256 ∨ md.W.getD (v - 256) [] ≠ []) → R = .error (x.i.at', 24) := fun hh => by
            have := HNX.out
            rw [hLL, if_pos hh] at this
            exact this.symm
          have hgood : ¬ (v < 256 ∨ N ≤ v - 256 ∨ md.W.getD (v - 256) [] ≠ []) → meanF (r0.drop (k + 1)) ⟨md.W.set (v - 256) (x.l.s ++ x.r.s), (x.l.s ++ x.r.s, v) :: md.made, md.M ++ [⟨(a : Int), (b : Int), (v : Int)⟩]⟩ = R := fun hh => by
            have := HNX.out
            rw [hLL, if_neg hh] at this
            exact this
          have HLL := Lib.hid hLL
          have HBD := Lib.hid hbad
          have HGD := Lib.hid hgood
          clear hbad hgood hLL HNX
          rcases Nat.lt_or_ge v 256 with h256 | h256
          · have g1 : decide ((v : Int) - 256 < 0) = true := decide_eq_true (by omega)
            have HRR := Lib.hid (HBD.out (.inl h256))
            clear hWW h256
            go_wp2_with fail
            refine (HPR _ _).mono ?_
            rintro e w2 ⟨rfl, hP2, hb2⟩
            go_wp2_with fail
            refine bodyPost_end (results_none rfl _ _ _) rfl ?_
            rw [HRR.out]
            exact ⟨rfl, HI2.out.hB.trans (hb2.mono HI2.out.hB.size), m, hP2⟩
          · obtain ⟨q, rfl⟩ : ∃ q, v = q + 256 := ⟨v - 256, by omega⟩
            have g1 : decide ((q : Int) < 0) = false := decide_eq_false (by omega)
            rcases Nat.lt_or_ge q N with hqN | hqN
            · have g2 : decide ((N : Int) ≤ (q : Int)) = false := decide_eq_false (by omega)
              have x1 := hWW.at_ (i := q) (by rw [HLL.out]; exact hqN)
              by_cases hemp : md.W.getD q [] = []
              · have g3 : ((textOf (md.W.getD q [])).toList == ([] : List UInt8)) = true := by rw [text_list]; simpa using hemp
                have hz1 : (textOf x.l.s).size ≤ 4194304 := by rw [text_size]; exact HWO.out.1
                have hz2 : (textOf x.r.s).size ≤ 4194304 := by rw [text_size]; exact HWO.out.2.1
                have hkey := keyS (textOf (x.l.s ++ x.r.s)) (by rw [text_size, List.length_append]; have := HWO.out.1; have := HWO.out.2.1; omega)
                have hap := text_append x.l.s x.r.s
                have hgo := HGD.out (by rw [show q + 256 - 256 = q by omega]; intro hh; rcases hh with hh | hh | hh <;> first | omega | exact hh hemp)
                rw [show q + 256 - 256 = q by omega] at hgo
                have e256 : (256 : Int) + (q : Int) = ((q + 256 : Nat) : Int) := by omega
                have HGO := Lib.hid hgo
                have HKEY := Lib.hid hkey
                have HAP := Lib.hid hap
                have HEE := Lib.hid e256
                have hq2 : (256 : Int) + (q : Int) ≤ 1000000000000000 := by have := HVL.out; omega
                obtain ⟨y, hy⟩ : ∃ y, y = textOf (md.W.getD q []) := ⟨_, rfl⟩
                have HY := Lib.hid hy
                have HQN := Lib.hid hqN
                rw [← hy] at x1 g3
                clear hy
                clear hWW h256 hemp hgo hkey hap e256 HPR y1 y7
                go_upto_region 16 with fail
                rw [HAP.out, HEE.out]
                have HZ1 := Lib.hid hz1
                clear hz1 hz2 y2 y5 x1 f0 hq2
                have hI3 := HI2.out.below (below_drewN (Below.refl _ _) 1) HI2.out.hB.size
                obtain ⟨sw, hsw⟩ : ∃ sw, sw = textOf (x.l.s ++ x.r.s) := ⟨_, rfl⟩
                have HSW := Lib.hid hsw
                rw [← hsw]
                clear hsw g1 g2 g3
                refine wp_region_any (by kernel_rfl) ?_
                show wpAny _ _ _ _ 9 _ _ _
                refine wpAny_move (i := 0) (.tmp 2) rfl rfl rfl (by kernel_rfl) (by kernel_rfl) (by kernel_rfl) (fun _ _ _ _ h => h) ?_
                obtain ⟨U, hU⟩ : ∃ U, U = V2.drew := ⟨_, rfl⟩
                have hI3 : MI w g wb mb cb (cb + 1) z r0 R k md m U := by rw [hU]; exact hI3
                have hsU : V2.heap.size = U.heap.size := by rw [hU]; rfl
                rw [show ({ V2 with drawn := V2.drawn + 1 } : World) = U from hU.symm]
                have hcc : U.cell? ⟨cb, 0, none⟩ = some (.map (some mb)) := (cell_of_block hI3.hC 0).trans rfl
                have hww : U.cell? ⟨wb, q, none⟩ = some (.string y) := by
                  rw [HY.out]; exact hI3.hW.at_ (by rw [HLL.out]; exact HQN.out)
                have fw := fun j => unfrozen_of_block hI3.hW j
                have HI3 := Lib.hid hI3
                clear hU hI3
                refine wpAny_move (i := 1) (.tmp 10) rfl rfl rfl (by kernel_rfl) (by kernel_rfl) (by kernel_rfl) (fun _ _ _ _ h => h) ?_
                refine wpAny_move (i := 3) (.tmp 11) rfl rfl rfl (by kernel_rfl) (by kernel_rfl) (by kernel_rfl) (fun _ _ _ _ h => h) ?_
                refine wpAny_move (i := 4) (.tmp 11) rfl rfl rfl (by kernel_rfl) (by kernel_rfl) (by kernel_rfl) (fun _ _ _ _ h => h) ?_
                refine wpAny_move (i := 5) (.tmp 12) rfl rfl rfl (by kernel_rfl) (by kernel_rfl) (by kernel_rfl) (fun _ _ _ _ h => h) ?_
                go_simp
                refine wpAny_take (i := 6) (v := .pointer (some ⟨wb, q, none⟩)) rfl (by kernel_rfl) (by kernel_rfl) (by kernel_rfl) (fun _ _ _ h => h) (.inl ⟨by kernel_rfl, fun w' => by go_simp⟩) ?_
                go_simp
                refine wpAny_load2 (i := 7) (j := 2) (u := .map (some mb)) (S := fun w' => w'.cell? ⟨cb, 0, none⟩ = some (.map (some mb))) _ [8] rfl rfl (by kernel_rfl) (by kernel_rfl) (by omega) (by kernel_rfl) (by kernel_rfl) (by kernel_rfl) (by kernel_rfl) (by simp) (fun _ _ _ _ h => h) (.inl ⟨by kernel_rfl, fun w' hw' => by go_simp⟩) hcc rfl ?_
                intro K hK
                simp only [pick, List.take_succ_cons, List.take_zero, List.drop_succ_cons, List.drop_zero, List.nil_append, List.cons_append] at hK
                go_simp
                have hP4 : PB (U.setCell ⟨wb, q, none⟩ (.string sw)) g { z with M0 := m } := HI3.out.hP.other (by have := HLT.out; have := HWB.out; omega) _
                have hW4 : WB (U.setCell ⟨wb, q, none⟩ (.string sw)) wb (md.W.set q (x.l.s ++ x.r.s)) := by rw [HSW.out]; exact HI3.out.hW.set q _
                have hk4 : ∀ j, j ≠ wb → (U.setCell ⟨wb, q, none⟩ (.string sw)).heap[j]? = U.heap[j]? := fun j hj => Below.heap_setCell _ _ _ _ hj
                obtain ⟨n4, hn4, hM4⟩ := HI3.out.hM
                have hmn : mb ≠ wb := by have := HMB.out; omega
                have hM4 := hM4.kept (hk4 mb hmn)
                have hC4 := (hk4 cb (by have := HMB.out; have := HCB.out; omega)).trans HI3.out.hC
                have hR4 := HI3.out.hR.kt (w' := U.setCell ⟨wb, q, none⟩ (.string sw)) (fun b cur hb => hk4 b (fun e => by
                  have h2 := HI3.out.hW; unfold WB at h2; rw [← e, hb] at h2; cases h2))
                have hO4 := HI3.out.hO.kt (w' := U.setCell ⟨wb, q, none⟩ (.string sw)) (fun b cur hb => hk4 b (fun e => by
                  have h2 := HI3.out.hW; unfold WB at h2; rw [← e, hb] at h2; cases h2))
                have hB4 : But g w.heap.size w (U.setCell ⟨wb, q, none⟩ (.string sw)) := HI3.out.hB.above (p := ⟨wb, q, none⟩) (by rw [← HWB.out]; exact Nat.le_refl _) _
                have hz4 : cb + 1 ≤ (U.setCell ⟨wb, q, none⟩ (.string sw)).heap.size := by simpa using HI3.out.hz
                have hcc4 : (U.setCell ⟨wb, q, none⟩ (.string sw)).cell? ⟨cb, 0, none⟩ = some (.map (some mb)) := (cell_of_block hC4 0).trans rfl
                have hnk : n4 < maxLen := by have := HN.out; unfold maxLen; omega
                have hky : keyOf Try.prog 9 (.string sw) = some (.string sw.data.toList) := by rw [HSW.out]; exact HKEY.out
                obtain ⟨U4, hU4⟩ : ∃ U4, U4 = U.setCell ⟨wb, q, none⟩ (.string sw) := ⟨_, rfl⟩
                rw [← hU4] at hP4 hW4 hk4 hM4 hC4 hR4 hO4 hB4 hz4 hcc4 ⊢
                refine hK _ _ hcc4 ?_
                have HP4 := Lib.hid hP4
                have HW4 := Lib.hid hW4
                have HC4 := Lib.hid hC4
                have HR4 := Lib.hid hR4
                have HO4 := Lib.hid hO4
                have HB4 := Lib.hid hB4
                have HZ4 := Lib.hid hz4
                clear hK hP4 hW4 hk4 hC4 hR4 hO4 hB4 hz4 hcc4 hU4 hcc hww fw
                refine wpList_put _ rfl _ _ _ 86 rfl Try.underlying86 rfl hM4 hnk sw _ (q + 256) rfl rfl hky (by have := HVL.out; omega) ?_
                intro w5 hM5 hg5
                have hks : ∀ j, j < U4.heap.size → j ≠ mb → w5.heap[j]? = U4.heap[j]? := fun j hj hne => hg5.block j hj (fun e => hne (Option.some.inj e))
                have hgm : g < wb := by have := HLT.out; have := HWB.out; omega
                have hmb := HMB.out
                have hcb := HCB.out
                obtain ⟨es, ec, hes⟩ := hM4.block
                have hlt4 : ∀ (b : Nat) (o : Obj), U4.heap[b]? = some o → b < U4.heap.size := fun b o hb => (Array.getElem?_eq_some_iff.1 hb).1
                have hk5 : ∀ (b : Nat) (cur : Array Value) (T : TypeId), U4.heap[b]? = some (Obj.cells cur T (0, 0)) → w5.heap[b]? = U4.heap[b]? := fun b cur T hb => hks b (hlt4 b _ hb) (fun e => by rw [e, hes] at hb; cases hb)
                have hP5 : PB w5 g { z with M0 := m } := (hk5 _ _ _ HP4.out).trans HP4.out
                have hW5 : WB w5 wb (md.W.set q (x.l.s ++ x.r.s)) := (hk5 _ _ _ HW4.out).trans HW4.out
                have hC5 := (hk5 _ _ _ HC4.out).trans HC4.out
                have hR5 := HR4.out.kt (fun b cur hb => hk5 b cur _ hb)
                have hO5 := HO4.out.kt (fun b cur hb => hk5 b cur _ hb)
                have hB5 : But g w.heap.size w w5 := HB4.out.trans ⟨hg5.os, hg5.tape, hg5.output, hg5.size, fun j hj _ => hks j (Nat.lt_of_lt_of_le hj HB4.out.size) (by have := HWB.out; omega)⟩
                have hz5 : cb + 1 ≤ w5.heap.size := Nat.le_trans HZ4.out hg5.size
                have hM5 : MapS w5 mb (n4 + 1) (FM ((x.l.s ++ x.r.s, q + 256) :: md.made)) := by
                  rw [FM_cons, ← HSW.out]; exact hM5
                obtain ⟨v6, w6, hr6, hO6, hB6, -⟩ := mg_app w5 (cb + 1) m md.M ⟨(a : Int), (b : Int), (q : Int) + 256⟩ hO5 hz5 (by rw [HI3.out.hml]; have := HN.out; omega)
                have hown : ∀ i, m.ownBlock = some i → cb + 1 ≤ i ∧ ∃ cur, w5.heap[i]? = some (Obj.cells cur 47 (0, 0)) := fun i hi => by
                  obtain ⟨h1, -, h3⟩ := hO5.block hi
                  exact ⟨h1, h3⟩
                have hk6 : ∀ j, j < w5.heap.size → j ≤ cb → w6.heap[j]? = w5.heap[j]? := fun j hj hjc => hB6.block j hj (Nat.ne_of_lt hj) (fun e => by have := (hown j e.symm).1; omega)
                have hP6 : PB w6 g { z with M0 := m } := (hk6 g hP5.lt (by omega)).trans hP5
                have hW6 : WB w6 wb (md.W.set q (x.l.s ++ x.r.s)) := (hk6 wb (Array.getElem?_eq_some_iff.1 hW5).1 (by omega)).trans hW5
                have hC6 := (hk6 cb (Array.getElem?_eq_some_iff.1 hC5).1 (Nat.le_refl _)).trans hC5
                have hM6 := hM5.kept (hk6 mb hM5.lt (by omega))
                have hR6 := hR5.kt (w' := w6) (fun b cur hb => hB6.block b (Array.getElem?_eq_some_iff.1 hb).1 (Nat.ne_of_lt (Array.getElem?_eq_some_iff.1 hb).1) (fun e => by
                  obtain ⟨-, cur2, h2⟩ := hown b e.symm
                  rw [hb] at h2; cases h2))
                have hB6' : But g w.heap.size w w6 := hB5.trans ⟨hB6.os, hB6.tape, hB6.output, hB6.size, fun j hj _ => hk6 j (Nat.lt_of_lt_of_le hj hB5.size) (by have := HWB.out; omega)⟩
                obtain ⟨gg, nn, cap, hv6, hnn⟩ := hO6.form (by simp)
                rw [hv6] at hr6 hO6
                have hP7 := hP6.setM0 (.slice (some ⟨gg, 0, none⟩) nn cap)
                have hk7 : ∀ j, j ≠ g → (w6.setCell ⟨g, 7, none⟩ (.slice (some ⟨gg, 0, none⟩) nn cap)).heap[j]? = w6.heap[j]? := fun j hj => Below.heap_setCell _ _ _ _ hj
                have hgT : ∀ (b : Nat) (cur : Array Value) (T : TypeId), T ≠ 65 → w6.heap[b]? = some (Obj.cells cur T (0, 0)) → b ≠ g := fun b cur T hT hb e => by
                  have h2 := hP6
                  unfold PB at h2
                  rw [← e, hb] at h2
                  injection h2 with h2
                  injection h2 with _ h2
                  exact hT h2
                have hW7 : WB (w6.setCell ⟨g, 7, none⟩ (.slice (some ⟨gg, 0, none⟩) nn cap)) wb (md.W.set q (x.l.s ++ x.r.s)) := (hk7 wb (by omega)).trans hW6
                have hC7 := (hk7 cb (by omega)).trans hC6
                have hM7 := hM6.kept (hk7 mb (by omega))
                have hR7 := hR6.kt (w' := w6.setCell ⟨g, 7, none⟩ (.slice (some ⟨gg, 0, none⟩) nn cap)) (fun b cur hb => hk7 b (hgT b cur _ (by decide) hb))
                have hO7 := hO6.kt (w' := w6.setCell ⟨g, 7, none⟩ (.slice (some ⟨gg, 0, none⟩) nn cap)) (fun b cur hb => hk7 b (hgT b cur _ (by decide) hb))
                have hB7 := hB6'.setCell 7 (.slice (some ⟨gg, 0, none⟩) nn cap)
                have hgo := HGO.out
                rw [show (((q + 256 : Nat)) : Int) = (q : Int) + 256 by omega] at hgo
                have HEND : Hid (MI w g wb mb cb (cb + 1) z r0 R (k + 1) ⟨md.W.set q (x.l.s ++ x.r.s), (x.l.s ++ x.r.s, q + 256) :: md.made, md.M ++ [⟨(a : Int), (b : Int), (q : Int) + 256⟩]⟩ (.slice (some ⟨gg, 0, none⟩) nn cap) (w6.setCell ⟨g, 7, none⟩ (.slice (some ⟨gg, 0, none⟩) nn cap))) := Lib.hid
                  ⟨hP7, hR7, hW7, by have := HI3.out.hL; simpa using this, ⟨n4 + 1, by omega, hM7⟩, hC7, hO7, by rw [List.length_append, HI3.out.hml]; rfl, hB7, by have := hB6.size; simp; omega, hgo⟩
                have e7 := hP5.c7
                have e8 := hP6.c7
                have f7 := fun j => hP6.free j
                have hNb : N ≤ 4194305 := by have := HN.out; omega
                clear hks hgm hmb hcb hes hlt4 hk5 hP5 hW5 hC5 hR5 hO5 hB5 hz5 hM5 hO6 hB6 hown hk6 hP6 hW6 hC6 hM6 hR6 hB6' hv6 hnn hP7 hk7 hgT hW7 hC7 hM7 hR7 hO7 hB7 hgo hg5 hM4 hmn hnk hky hn4 HI1 HXM HI2 HX2 HI3 HP4 HW4 HC4 HR4 HO4 HB4 HZ4
                go_wp2_with (at_builtin; refine wpList_append_run rfl (.tmp 106) (.tmp 111) 24 24 rfl _ _ rfl rfl _ w6 hr6 ?_; clear hr6)
                exact ⟨⟨k + 1, _, _, by omega, by go_num, HEND.out⟩, by simp only [intOf]; omega⟩
              · have HRR := Lib.hid (HBD.out (.inr (.inr (by rw [show q + 256 - 256 = q by omega]; exact hemp))))
                have g3 : ((textOf (md.W.getD q [])).toList == ([] : List UInt8)) = false := by rw [text_list]; simpa using hemp
                generalize textOf (md.W.getD q []) = y at *
                clear hWW h256 hemp
                go_wp2_with fail
                refine (HPR _ _).mono ?_
                rintro e w2 ⟨rfl, hP2, hb2⟩
                go_wp2_with fail
                refine bodyPost_end (results_none rfl _ _ _) rfl ?_
                rw [HRR.out]
                exact ⟨rfl, HI2.out.hB.trans (hb2.mono HI2.out.hB.size), m, hP2⟩
            · have g2 : decide ((N : Int) ≤ (q : Int)) = true := decide_eq_true (by omega)
              have HRR := Lib.hid (HBD.out (.inr (.inl (by omega))))
              clear hWW h256
              go_wp2_with fail
              refine (HPR _ _).mono ?_
              rintro e w2 ⟨rfl, hP2, hb2⟩
              go_wp2_with fail
              refine bodyPost_end (results_none rfl _ _ _) rfl ?_
              rw [HRR.out]
              exact ⟨rfl, HI2.out.hB.trans (hb2.mono HI2.out.hB.size), m, hP2⟩
    · have hkn : k = N := by omega
      have hPP := HI.out.hP
      have e6 := hPP.c6
      have f0 := fun j => hPP.free j
      have hlen := HI.out.hL
      rw [← HN.out] at hlen
      have hWo := HI.out.hW.own w.heap.size (by rw [← HWB.out]; exact Nat.le_refl _) (by rw [hlen, HN.out]; omega)
      rw [hlen] at hWo
      have hFF := HI.out.hF
      rw [hkn, HN.out, List.drop_length] at hFF
      have HRR : Hid (R = .ok md) := Lib.hid hFF.symm
      have HPP := Lib.hid hPP
      have HWo := Lib.hid hWo
      have g0 : decide ((k : Int) < (N : Int)) = false := decide_eq_false (by omega)
      clear hPP hlen hWo hFF hI hkn
      go_wp2_with fail
      refine bodyPost_end (results_none rfl _ _ _) rfl ?_
      rw [HRR.out]
      have hbt : ∀ B, But g B wr (wr.setCell ⟨g, 6, none⟩ (.slice (some ⟨wb, 0, none⟩) N N)) := fun B => (But.refl g B wr).setCell 6 _
      exact ⟨rfl, HI.out.hB.trans (hbt _), _, m, HPP.out.setW0 _, HWo.out.but (hbt _) (Nat.le_refl _) HLT.out, (HI.out.hO.base_le (by have := HWB.out; have := HMB.out; have := HCB.out; omega)).but (hbt _) (Nat.le_refl _) HLT.out⟩
end Go.Proofs.Ytonbfcpbgkpbaab
end
section
/- recipe's parser.rules: its contract. -/
namespace Go.Proofs.Ytonbfcpbgkpbaab
open Go.RowKit Go.Sort Go.Joins
set_option linter.unusedVariables false
set_option linter.unusedSimpArgs false
set_option maxRecDepth 100000
theorem text_eq (s l : List UInt8) : ((textOf s).toList == (textOf l).toList) = decide (s = l) := by
  rw [text_list, text_list]
  rw [Bool.eq_iff_iff]
  simp
theorem take_names (g : Nat) (src : ByteArray) (st : PS) (d : DV) (w : World) (h : PX w g src st d) (hs : src.size ≤ 4194304) :
    Calls Try.prog 32 #[.pointer (some ⟨g, 0, none⟩), .int .i64 1, .slice (some ⟨w.heap.size, 0, none⟩) 4 4] (w.alloc (.cells #[.string { data := #[109, 101, 114, 103, 101] }, .string { data := #[108, 101, 116, 116, 101, 114, 115] }, .string { data := #[110, 117, 109, 98, 101, 114, 115] }, .string { data := #[115, 112, 97, 99, 101, 115] }] 9)) (TakePost w g src d (takeP nameM st)) := by
  have hb := box_below w (.cells #[.string { data := #[109, 101, 114, 103, 101] }, .string { data := #[108, 101, 116, 116, 101, 114, 115] }, .string { data := #[110, 117, 109, 98, 101, 114, 115] }, .string { data := #[115, 112, 97, 99, 101, 115] }] 9)
  have hT := take_any g src st d 1 (some ⟨w.heap.size, 0, none⟩) 4 [textOf sMerge, textOf sLetters, textOf sNumbers, textOf sSpaces] (w.alloc (.cells #[.string { data := #[109, 101, 114, 103, 101] }, .string { data := #[108, 101, 116, 116, 101, 114, 115] }, .string { data := #[110, 117, 109, 98, 101, 114, 115] }, .string { data := #[115, 112, 97, 99, 101, 115] }] 9)) (h.below hb h.lt) (texts_new w [textOf sMerge, textOf sLetters, textOf sNumbers, textOf sSpaces]) (by simp) hs (by omega)
  rw [mW_of 1 _ (by simp)] at hT
  refine hT.mono ?_
  rintro e w' ⟨rfl, h1, h2⟩
  exact ⟨rfl, h1, (But.of_below hb).trans (h2.mono hb.size)⟩
theorem Bu.toBut {g B base : Nat} {ob : Option Nat} {w w' : World} (h : Bu g ob B w w') (hob : ∀ i, ob = some i → base ≤ i) (hB : base ≤ B) : But g base w w' :=
  ⟨h.os, h.tape, h.output, h.size, fun k hk hkg => h.block k (by omega) hkg (fun e => by have := hob k e.symm; omega)⟩
theorem ruleP_merge {st : PS} {r : RD} (h : (takeP nameM st).1.s = sMerge) : ruleP st r = ({ r with M := r.M ++ [(mergeP (takeP nameM st).2).1] }, (mergeP (takeP nameM st).2).2) := by
  unfold ruleP
  simp only
  rw [if_pos h]
theorem ruleP_span {st : PS} {r : RD} {o : Nat} (ho : (o = 8 ∧ (takeP nameM st).1.s = sLetters) ∨ (o = 9 ∧ (takeP nameM st).1.s = sNumbers) ∨ (o = 10 ∧ (takeP nameM st).1.s = sSpaces)) : ruleP st r = (r.add o (spansP (takeP nameM st).2).1, (spansP (takeP nameM st).2).2) := by
  unfold ruleP
  simp only
  rcases ho with ⟨rfl, h⟩ | ⟨rfl, h⟩ | ⟨rfl, h⟩
  · rw [h, if_neg (by decide), if_pos rfl]; rfl
  · rw [h, if_neg (by decide), if_neg (by decide), if_pos rfl]; rfl
  · rw [h, if_neg (by decide), if_neg (by decide), if_neg (by decide), if_pos rfl]; rfl
theorem ruleP_no {st : PS} {r : RD} (h : (takeP nameM st).1 = zeroT) : ruleP st r = (r, (takeP nameM st).2) := by
  unfold ruleP
  simp only
  rw [h, if_neg (by decide), if_neg (by decide), if_neg (by decide), if_neg (by decide)]
/-- What is taken as a rule's name. -/
theorem name_cases (st : PS) : ((takeP nameM st).1 = zeroT ∧ (takeP nameM st).2.1 = true) ∨ (((takeP nameM st).1.s = sMerge ∨ (takeP nameM st).1.s = sLetters ∨ (takeP nameM st).1.s = sNumbers ∨ (takeP nameM st).1.s = sSpaces) ∧ meetP nameM st = true) := by
  obtain ⟨bad, ts⟩ := st
  cases ts with
  | nil => cases bad <;> exact .inl ⟨rfl, rfl⟩
  | cons t ts =>
    cases bad with
    | true => exact .inl ⟨rfl, rfl⟩
    | false =>
      show ((if nameM t = true then (t, (false, ts)) else (zeroT, (true, t :: ts))).1 = zeroT ∧ (if nameM t = true then (t, (false, ts)) else (zeroT, (true, t :: ts))).2.1 = true) ∨ _
      by_cases hm : nameM t = true
      · refine .inr ⟨?_, hm⟩
        show (if nameM t = true then (t, (false, ts)) else (zeroT, (true, t :: ts))).1.s = _ ∨ (if nameM t = true then (t, (false, ts)) else (zeroT, (true, t :: ts))).1.s = _ ∨ (if nameM t = true then (t, (false, ts)) else (zeroT, (true, t :: ts))).1.s = _ ∨ (if nameM t = true then (t, (false, ts)) else (zeroT, (true, t :: ts))).1.s = _
        rw [if_pos hm]
        unfold nameM mOf at hm
        rw [Bool.and_eq_true] at hm
        have h2 := hm.2
        simp only [List.contains_cons, List.contains_nil, Bool.or_false, Bool.or_eq_true, beq_iff_eq] at h2
        exact h2
      · rw [if_neg hm]
        exact .inl ⟨rfl, rfl⟩
def dv0 : DV := ⟨.slice none 0 0, .slice none 0 0, .slice none 0 0, .slice none 0 0, .slice none 0 0, .slice none 0 0⟩
def RulesPost (w : World) (g : Nat) (src : ByteArray) (e : Ending) (w' : World) : Prop :=
  e = .returned (.tuple #[]) ∧ ∃ d, PX w' g src (rulesF (rest (tl src) 0).length (false, rest (tl src) 0) ⟨[], [], [], []⟩).2 d ∧ DO w' w.heap.size d (rulesF (rest (tl src) 0).length (false, rest (tl src) 0) ⟨[], [], [], []⟩).1 ∧ But g w.heap.size w w' ∧ Toks (rulesF (rest (tl src) 0).length (false, rest (tl src) 0) ⟨[], [], [], []⟩).2 ∧ (rulesF (rest (tl src) 0).length (false, rest (tl src) 0) ⟨[], [], [], []⟩).1.le 4194305
set_option maxHeartbeats 2000000 in
theorem rules_any (g : Nat) (src : ByteArray) (w : World) (h : PB w g ⟨src, 0, 0, 0, ⟨#[]⟩, .slice none 0 0, .slice none 0 0, .slice none 0 0, .slice none 0 0, .slice none 0 0, .slice none 0 0, 0, 0⟩) (hs : src.size ≤ 4194304) :
    Calls Try.prog 18 #[.pointer (some ⟨g, 0, none⟩)] w (RulesPost w g src) := by
  have hlt := h.lt
  have HN := next_any g _ w h (Nat.zero_le _) hs
  simp only at HN
  obtain ⟨q, hq⟩ : ∃ q, q = 0 + skipN false ((tl src).drop 0) := ⟨_, rfl⟩
  rw [← hq] at HN
  obtain ⟨R, hR⟩ : ∃ R, R = tokL ((tl src).drop q) := ⟨_, rfl⟩
  rw [← hR] at HN
  have HQ := Lib.hid hq
  have HRR := Lib.hid hR
  have hN := rest_length (tl src) 0
  rw [tl_len] at hN
  obtain ⟨st0, hst0⟩ : ∃ st, st = rest (tl src) 0 := ⟨_, rfl⟩
  have HPO : Hid (∀ e w', (e = .returned (.tuple #[]) ∧ ∃ d, PX w' g src (rulesF st0.length (false, st0) ⟨[], [], [], []⟩).2 d ∧ DO w' w.heap.size d (rulesF st0.length (false, st0) ⟨[], [], [], []⟩).1 ∧ But g w.heap.size w w' ∧ Toks (rulesF st0.length (false, st0) ⟨[], [], [], []⟩).2 ∧ (rulesF st0.length (false, st0) ⟨[], [], [], []⟩).1.le 4194305) → RulesPost w g src e w') := Lib.hid (fun e w' hh => by unfold RulesPost; rw [← hst0]; exact hh)
  rw [← hst0] at hN
  have HST := Lib.hid hst0
  clear hq hR hst0 h
  go_enter Try.func18, Try.ntmps18
  go_wp2_with fail
  refine HN.mono ?_
  rintro e w1 ⟨p, rfl, hp5, hps, hP1, hb1⟩
  have x2 := hP1.c2
  have x3 := hP1.c3
  have x4 := hP1.c4
  have fg := fun j => hP1.free j
  have hP2 := hP1.three' R.1 q (textOf R.2.2)
  have hPX : PX (((w1.setCell ⟨g, 2, none⟩ (.int .i64 (R.1 : Nat))).setCell ⟨g, 3, none⟩ (.int .i64 (q : Nat))).setCell ⟨g, 4, none⟩ (.string (textOf R.2.2))) g src (false, st0) dv0 := by
    refine ⟨_, hP2, ?_, rfl⟩
    refine ⟨rfl, ?_⟩
    rw [HST.out, rest_eq]
    have hta : tokAt (tl src) 0 = ⟨R.1, q, R.2.2⟩ := by unfold tokAt; rw [HRR.out, HQ.out]
    have hte : R.1 ≤ 5 → tokEnd (tl src) 0 = p := fun h => by rw [hp5 h, HRR.out, HQ.out]; unfold tokEnd; rfl
    rw [hta]
    refine ⟨rfl, rfl, rfl, rfl, rfl, hps, ?_⟩
    show (if R.1 ≤ 5 then _ else _) = (if R.1 ≤ 5 then _ else _)
    by_cases h5 : R.1 ≤ 5
    · rw [if_pos h5, if_pos h5, hte h5]
    · rw [if_neg h5, if_neg h5]
  have hB2 := ((hb1.setCell 2 (.int .i64 (R.1 : Nat))).setCell 3 (.int .i64 (q : Nat))).setCell 4 (.string (textOf R.2.2))
  have HPX := Lib.hid hPX
  have HB2 := Lib.hid hB2
  clear HN hP1 hb1 hp5 hP2 hPX hB2
  go_wp2_with fail
  go_loopg [] st0.length (fun k wr => RuI w g w.heap.size src (false, st0) st0.length 4194305 k wr)
  case atStart => exact ⟨(false, st0), ⟨[], [], [], []⟩, dv0, HPX.out, ⟨OwnG.nil _ _ _ _ _, OwnG.nil _ _ _ _ _, OwnG.nil _ _ _ _ _, OwnG.nil _ _ _ _ _, (fun i hi => by cases hi), (fun i hi => by cases hi), (fun i hi => by cases hi), rfl, rfl⟩, HB2.out, (fun t ht => by rw [HST.out] at ht; exact strm_ok _ _ _ t ht), fun _ => Nat.le_refl _, ⟨Nat.zero_le _, Nat.zero_le _, Nat.zero_le _, Nat.zero_le _⟩, by simp only; omega, rfl⟩
  case round =>
    obtain ⟨st, r, d, hP, hD, hB, hT, hf, hle, hN2, hru⟩ := hrel
    clear x2 x3 x4 fg
    have HPP := Lib.hid hP
    have HD := Lib.hid hD
    have HB := Lib.hid hB
    have HT := Lib.hid hT
    have HF := Lib.hid hf
    have HLE := Lib.hid hle
    have HRU := Lib.hid hru
    obtain ⟨z, hz, ⟨hsrc, hrel2⟩, hdv⟩ := hP
    have c11 := hz.c11
    have c2 := hz.c2
    clear hD hB hT hf hle hru hdv hz hsrc
    obtain ⟨bad, ts⟩ := st
    cases ts with
    | nil => cases bad <;> exact hrel2.elim
    | cons t ts =>
      cases bad with
      | true =>
        obtain ⟨hk, ht, hss, hr, -⟩ := hrel2
        have hwy : ((z.why : Int) == 0) = false := by
          have h1 := refT_why src.size t
          rw [← hr] at h1
          have h2 : z.why ≠ 0 := h1
          simp
          omega
        generalize z.why = wy at *
        clear hk ht hss hr c2
        go_wp2_with fail
        refine bodyPost_end (results_none rfl _ _ _) rfl ?_
        refine HPO.out _ _ ?_
        have e := HRU.out
        rw [rulesF_bad] at e
        rw [e]
        exact ⟨rfl, d, HPP.out, HD.out, HB.out, HT.out, ⟨Nat.le_trans HLE.out.1 (Nat.sub_le _ _), Nat.le_trans HLE.out.2.1 (Nat.sub_le _ _), Nat.le_trans HLE.out.2.2.1 (Nat.sub_le _ _), Nat.le_trans HLE.out.2.2.2 (Nat.sub_le _ _)⟩⟩
      | false =>
        obtain ⟨hk, ht, hss, hwy, -⟩ := hrel2
        rw [hwy] at c11
        rw [hk] at c2
        clear hk ht hss hwy
        by_cases h8 : t.k = 8
        · have hd8 : ((t.k : Int) != 8) = false := by simp [h8]
          have HH8 : Hid (headK (false, t :: ts) = 8) := Lib.hid h8
          generalize t.k = tk at *
          clear h8
          go_wp2_with fail
          refine bodyPost_end (results_none rfl _ _ _) rfl ?_
          refine HPO.out _ _ ?_
          have e := HRU.out
          rw [rulesF_end _ _ _ HH8.out] at e
          rw [e]
          exact ⟨rfl, d, HPP.out, HD.out, HB.out, HT.out, ⟨Nat.le_trans HLE.out.1 (Nat.sub_le _ _), Nat.le_trans HLE.out.2.1 (Nat.sub_le _ _), Nat.le_trans HLE.out.2.2.1 (Nat.sub_le _ _), Nat.le_trans HLE.out.2.2.2 (Nat.sub_le _ _)⟩⟩
        · have hd8 : ((t.k : Int) != 8) = true := by simp; omega
          have hgk : 1 ≤ gk := by have := HF.out rfl; simp only [List.length_cons] at this; omega
          obtain ⟨f, hfk⟩ : ∃ f, gk = f + 1 := ⟨gk - 1, by omega⟩
          have HFK := Lib.hid hfk
          have HNX := Lib.hid (rulesF_next f (false, t :: ts) r rfl h8)
          have hnc := name_cases (false, t :: ts)
          have HTN := take_names g src (false, t :: ts) d wr HPP.out hs
          have htk := (HT.out.take nameM).1
          have htl := take_length nameM (false, t :: ts)
          have hless : meetP nameM (false, t :: ts) = true → _ := take_less (m := nameM) (st := (false, t :: ts))
          have HRM : Hid ((takeP nameM (false, t :: ts)).1.s = sMerge → ruleP (false, t :: ts) r = ({ r with M := r.M ++ [(mergeP (takeP nameM (false, t :: ts)).2).1] }, (mergeP (takeP nameM (false, t :: ts)).2).2)) := Lib.hid ruleP_merge
          have HRS : Hid (∀ o, ((o = 8 ∧ (takeP nameM (false, t :: ts)).1.s = sLetters) ∨ (o = 9 ∧ (takeP nameM (false, t :: ts)).1.s = sNumbers) ∨ (o = 10 ∧ (takeP nameM (false, t :: ts)).1.s = sSpaces)) → ruleP (false, t :: ts) r = (r.add o (spansP (takeP nameM (false, t :: ts)).2).1, (spansP (takeP nameM (false, t :: ts)).2).2)) := Lib.hid (fun o ho => ruleP_span ho)
          have HRN : Hid ((takeP nameM (false, t :: ts)).1 = zeroT → ruleP (false, t :: ts) r = (r, (takeP nameM (false, t :: ts)).2)) := Lib.hid ruleP_no
          obtain ⟨⟨a, st1⟩, ha⟩ : ∃ x, x = takeP nameM (false, t :: ts) := ⟨_, rfl⟩
          rw [← ha] at hnc HTN htk hless htl HRM HRS HRN
          simp only at hnc htk hless HRM HRS HRN
          generalize hst : ((false, t :: ts) : PS) = st at *
          have hfd := fun a b s wx => field_text a b s wx
          have HLS := Lib.hid hless
          have HTL := Lib.hid htl
          have hk8 := h8
          generalize t.k = tk at *
          have HTOK := Lib.hid htk
          have hN3 : st.2.length ≤ gk := HF.out (by rw [← hst])
          have hll : (t :: ts).length = st.2.length := by rw [← hst]
          clear ha hless h8 hk8 hst hfk htk htl
          rcases hnc with ⟨rfl, hbad⟩ | ⟨hnm, hmeet⟩
          · have HBAD := Lib.hid hbad
            have HRN2 := Lib.hid (HRN.out rfl)
            clear hbad
            go_wp2_with fail
            refine HTN.mono ?_
            rintro e w2 ⟨rfl, hP2, hb2⟩
            have hD2 := HD.out.but hb2 (Nat.le_refl _) hlt
            have hB2 := HB.out.trans (hb2.mono HB.out.size)
            rw [show tokV (zeroT, st1).1 = .agg #[.int .i64 0, .int .i64 0, .string ⟨#[]⟩] from rfl]
            clear HTN hb2
            go_wp2_with fail
            go_roundg f
            case measure => have := HFK.out; omega
            case rel =>
              obtain ⟨b1, ts1⟩ := st1
              have hb1 : b1 = true := HBAD.out
              subst hb1
              have hl2 : ts1.length ≤ st.2.length := HTL.out
              refine ⟨(true, ts1), r, d, hP2, hD2, hB2, HTOK.out, (fun h => by cases h), ?_, ?_, ?_⟩
              · have := HLE.out
                exact ⟨Nat.le_trans this.1 (by simp only; omega), Nat.le_trans this.2.1 (by simp only; omega), Nat.le_trans this.2.2.1 (by simp only; omega), Nat.le_trans this.2.2.2 (by simp only; omega)⟩
              · simp only; omega
              · rw [HRU.out, HFK.out, HNX.out, HRN2.out]
          · rcases hnm with hn | hn | hn | hn
            · have f0 : ((textOf a.s).toList == ([109, 101, 114, 103, 101] : List UInt8)) = true := by rw [text_list, hn]; decide
              have hls := HLS.out hmeet

              obtain ⟨x, hx⟩ : ∃ x, x = textOf a.s := ⟨_, rfl⟩
              rw [← hx] at f0
              have HTV : Hid (tokV (a, st1).1 = .agg #[.int .i64 (a.k : Nat), .int .i64 (a.at' : Nat), .string x]) := Lib.hid (by rw [hx]; rfl)
              have HN := Lib.hid hn
              clear hx hn hmeet
              go_wp2_with fail
              refine HTN.mono ?_
              rintro e w2 ⟨rfl, hP2, hb2⟩
              have hD2 := HD.out.but hb2 (Nat.le_refl _) hlt
              have hB2 := HB.out.trans (hb2.mono HB.out.size)
              have hle := HLE.out
              rw [HTV.out]
              have hP2 : PX w2 g src st1 d := hP2
              have HME := merge_any g w.heap.size src st1 d r.M w2 hP2 HTOK.out hs hD2.oM hlt hB2.size (by have := hle.1; omega)
              have HD2 := Lib.hid hD2
              have HB2' := Lib.hid hB2
              have HLE2 := Lib.hid hle
              clear HTN hb2 hP2 hD2 hB2 hle
              go_wp2_with fail
              refine HME.mono ?_
              rintro e w3 ⟨rfl, v, hP3, hO3, hBu, hM3, hT3⟩
              clear HME
              go_wp2_with fail
              go_roundg f
              case measure => have := HFK.out; omega
              case rel =>
                have hml := mergeP_length st1
                have hle := HLE2.out
                refine ⟨(mergeP st1).2, { r with M := r.M ++ [(mergeP st1).1] }, { d with M := v }, hP3, HD2.out.merge hO3 hBu hlt, HB2'.out.trans (hBu.toBut (fun i hi => (HD2.out.oM.block hi).1) HB2'.out.size), hT3, (fun _ => by have := HFK.out; omega), ⟨?_, ?_, ?_, ?_⟩, by omega, ?_⟩
                · show (r.M ++ [(mergeP st1).1]).length ≤ _
                  rw [List.length_append]
                  have := hle.1
                  simp only [List.length_cons, List.length_nil]
                  omega
                · have := hle.2.1; show r.A.length ≤ _; omega
                · have := hle.2.2.1; show r.B.length ≤ _; omega
                · have := hle.2.2.2; show r.C.length ≤ _; omega
                · rw [HRU.out, HFK.out, HNX.out, HRM.out HN.out]
            · have f0 : ((textOf a.s).toList == ([109, 101, 114, 103, 101] : List UInt8)) = false := by rw [text_list, hn]; decide
              have f1 : ((textOf a.s).toList == ([108, 101, 116, 116, 101, 114, 115] : List UInt8)) = true := by rw [text_list, hn]; decide
              have hls := HLS.out hmeet

              obtain ⟨x, hx⟩ : ∃ x, x = textOf a.s := ⟨_, rfl⟩
              rw [← hx] at f0 f1
              have HTV : Hid (tokV (a, st1).1 = .agg #[.int .i64 (a.k : Nat), .int .i64 (a.at' : Nat), .string x]) := Lib.hid (by rw [hx]; rfl)
              have HN := Lib.hid hn
              clear hx hn hmeet
              go_wp2_with fail
              refine HTN.mono ?_
              rintro e w2 ⟨rfl, hP2, hb2⟩
              have hD2 := HD.out.but hb2 (Nat.le_refl _) hlt
              have hB2 := HB.out.trans (hb2.mono HB.out.size)
              have hle := HLE.out
              rw [HTV.out]
              have hP2 : PX w2 g src st1 d := hP2
              have HME := spans_any g w.heap.size 8 (by omega) src st1 d (r.get 8) w2 hP2 HTOK.out hs (hD2.own (o := 8) (by omega)) hlt hB2.size (by have := hle.2.1; show r.A.length + _ ≤ _; omega)
              have HD2 := Lib.hid hD2
              have HB2' := Lib.hid hB2
              have HLE2 := Lib.hid hle
              clear HTN hb2 hP2 hD2 hB2 hle
              go_wp2_with fail
              refine HME.mono ?_
              rintro e w3 ⟨rfl, v, hP3, hO3, hBu, hM3, hT3⟩
              clear HME
              go_wp2_with fail
              go_roundg f
              case measure => have := HFK.out; omega
              case rel =>
                have hml := spansP_length st1
                have hle := HLE2.out
                refine ⟨(spansP st1).2, r.add 8 (spansP st1).1, d.set 8 v, hP3, HD2.out.span (o := 8) (by omega) hO3 hBu hM3 hlt, HB2'.out.trans (hBu.toBut (fun i hi => ((HD2.out.own (o := 8) (by omega)).block hi).1) HB2'.out.size), hT3, (fun _ => by have := HFK.out; omega), ⟨?_, ?_, ?_, ?_⟩, by omega, ?_⟩
                · have := hle.1; show r.M.length ≤ _; omega
                · have := hle.2.1; show (r.A ++ (spansP st1).1).length ≤ _; rw [List.length_append]; omega
                · have := hle.2.2.1; show r.B.length ≤ _; omega
                · have := hle.2.2.2; show r.C.length ≤ _; omega
                · rw [HRU.out, HFK.out, HNX.out, HRS.out 8 (.inl ⟨rfl, HN.out⟩)]
            · have f0 : ((textOf a.s).toList == ([109, 101, 114, 103, 101] : List UInt8)) = false := by rw [text_list, hn]; decide
              have f1 : ((textOf a.s).toList == ([108, 101, 116, 116, 101, 114, 115] : List UInt8)) = false := by rw [text_list, hn]; decide
              have f2 : ((textOf a.s).toList == ([110, 117, 109, 98, 101, 114, 115] : List UInt8)) = true := by rw [text_list, hn]; decide
              have hls := HLS.out hmeet

              obtain ⟨x, hx⟩ : ∃ x, x = textOf a.s := ⟨_, rfl⟩
              rw [← hx] at f0 f1 f2
              have HTV : Hid (tokV (a, st1).1 = .agg #[.int .i64 (a.k : Nat), .int .i64 (a.at' : Nat), .string x]) := Lib.hid (by rw [hx]; rfl)
              have HN := Lib.hid hn
              clear hx hn hmeet
              go_wp2_with fail
              refine HTN.mono ?_
              rintro e w2 ⟨rfl, hP2, hb2⟩
              have hD2 := HD.out.but hb2 (Nat.le_refl _) hlt
              have hB2 := HB.out.trans (hb2.mono HB.out.size)
              have hle := HLE.out
              rw [HTV.out]
              have hP2 : PX w2 g src st1 d := hP2
              have HME := spans_any g w.heap.size 9 (by omega) src st1 d (r.get 9) w2 hP2 HTOK.out hs (hD2.own (o := 9) (by omega)) hlt hB2.size (by have := hle.2.2.1; show r.B.length + _ ≤ _; omega)
              have HD2 := Lib.hid hD2
              have HB2' := Lib.hid hB2
              have HLE2 := Lib.hid hle
              clear HTN hb2 hP2 hD2 hB2 hle
              go_wp2_with fail
              refine HME.mono ?_
              rintro e w3 ⟨rfl, v, hP3, hO3, hBu, hM3, hT3⟩
              clear HME
              go_wp2_with fail
              go_roundg f
              case measure => have := HFK.out; omega
              case rel =>
                have hml := spansP_length st1
                have hle := HLE2.out
                refine ⟨(spansP st1).2, r.add 9 (spansP st1).1, d.set 9 v, hP3, HD2.out.span (o := 9) (by omega) hO3 hBu hM3 hlt, HB2'.out.trans (hBu.toBut (fun i hi => ((HD2.out.own (o := 9) (by omega)).block hi).1) HB2'.out.size), hT3, (fun _ => by have := HFK.out; omega), ⟨?_, ?_, ?_, ?_⟩, by omega, ?_⟩
                · have := hle.1; show r.M.length ≤ _; omega
                · have := hle.2.1; show r.A.length ≤ _; omega
                · have := hle.2.2.1; show (r.B ++ (spansP st1).1).length ≤ _; rw [List.length_append]; omega
                · have := hle.2.2.2; show r.C.length ≤ _; omega
                · rw [HRU.out, HFK.out, HNX.out, HRS.out 9 (.inr (.inl ⟨rfl, HN.out⟩))]
            · have f0 : ((textOf a.s).toList == ([109, 101, 114, 103, 101] : List UInt8)) = false := by rw [text_list, hn]; decide
              have f1 : ((textOf a.s).toList == ([108, 101, 116, 116, 101, 114, 115] : List UInt8)) = false := by rw [text_list, hn]; decide
              have f2 : ((textOf a.s).toList == ([110, 117, 109, 98, 101, 114, 115] : List UInt8)) = false := by rw [text_list, hn]; decide
              have f3 : ((textOf a.s).toList == ([115, 112, 97, 99, 101, 115] : List UInt8)) = true := by rw [text_list, hn]; decide
              have hls := HLS.out hmeet

              obtain ⟨x, hx⟩ : ∃ x, x = textOf a.s := ⟨_, rfl⟩
              rw [← hx] at f0 f1 f2 f3
              have HTV : Hid (tokV (a, st1).1 = .agg #[.int .i64 (a.k : Nat), .int .i64 (a.at' : Nat), .string x]) := Lib.hid (by rw [hx]; rfl)
              have HN := Lib.hid hn
              clear hx hn hmeet
              go_wp2_with fail
              refine HTN.mono ?_
              rintro e w2 ⟨rfl, hP2, hb2⟩
              have hD2 := HD.out.but hb2 (Nat.le_refl _) hlt
              have hB2 := HB.out.trans (hb2.mono HB.out.size)
              have hle := HLE.out
              rw [HTV.out]
              have hP2 : PX w2 g src st1 d := hP2
              have HME := spans_any g w.heap.size 10 (by omega) src st1 d (r.get 10) w2 hP2 HTOK.out hs (hD2.own (o := 10) (by omega)) hlt hB2.size (by have := hle.2.2.2; show r.C.length + _ ≤ _; omega)
              have HD2 := Lib.hid hD2
              have HB2' := Lib.hid hB2
              have HLE2 := Lib.hid hle
              clear HTN hb2 hP2 hD2 hB2 hle
              go_wp2_with fail
              refine HME.mono ?_
              rintro e w3 ⟨rfl, v, hP3, hO3, hBu, hM3, hT3⟩
              clear HME
              go_wp2_with fail
              go_roundg f
              case measure => have := HFK.out; omega
              case rel =>
                have hml := spansP_length st1
                have hle := HLE2.out
                refine ⟨(spansP st1).2, r.add 10 (spansP st1).1, d.set 10 v, hP3, HD2.out.span (o := 10) (by omega) hO3 hBu hM3 hlt, HB2'.out.trans (hBu.toBut (fun i hi => ((HD2.out.own (o := 10) (by omega)).block hi).1) HB2'.out.size), hT3, (fun _ => by have := HFK.out; omega), ⟨?_, ?_, ?_, ?_⟩, by omega, ?_⟩
                · have := hle.1; show r.M.length ≤ _; omega
                · have := hle.2.1; show r.A.length ≤ _; omega
                · have := hle.2.2.1; show r.B.length ≤ _; omega
                · have := hle.2.2.2; show (r.C ++ (spansP st1).1).length ≤ _; rw [List.length_append]; omega
                · rw [HRU.out, HFK.out, HNX.out, HRS.out 10 (.inr (.inr ⟨rfl, HN.out⟩))]
end Go.Proofs.Ytonbfcpbgkpbaab
end
