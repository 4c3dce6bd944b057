import Derived.Test.YtplmmamebfpcjaaGreatDoorJ18
import Derived.WalkKit
import Derived.SizedLaws
import Derived.Deep.SlicePairs
import Derived.Test.YtplmmamebfpcjaaGreatDoorJ17
import Derived.Test.YtplmmamebfpcjaaGreatDoorJ19
import Derived.Deep.DeepAppendWide
section
/- A list of numbers that came in; tesserabook.Within. -/
namespace Go.Proofs.YtplmmamebfpcjaaGreatDoor
set_option linter.unusedVariables false
section
open Go.ChangeShapes Go.WideShapes Go.ChangeAt Go.RowKit Go.Deep
/-- The slice that begins at a holds the numbers l. -/
def INS (w : World) (a : Option Addr) (l : List Int) : Prop :=
  l = [] ∨ ∃ b off, a = some ⟨b, off, none⟩ ∧ ∀ i r, l[i]? = some r → w.cell? ⟨b, off + i, none⟩ = some (.int .i64 r)
theorem INS.below {w w' : World} {a : Option Addr} {l : List Int} (h : INS w a l) (hb : Below w.heap.size w w') : INS w' a l := by
  rcases h with h | ⟨b, off, rfl, hc⟩
  · exact .inl h
  · exact .inr ⟨b, off, rfl, fun i r hr => (hb.cell (World.block_lt_of_cell? w _ (hc i r hr))).trans (hc i r hr)⟩
theorem INS.at_ {w : World} {a : Option Addr} {l : List Int} (h : INS w a l) {i : Nat} {r : Int} (hr : l[i]? = some r) : ∃ b off, a = some ⟨b, off, none⟩ ∧ w.cell? ⟨b, off + i, none⟩ = some (.int .i64 r) := by
  rcases h with rfl | ⟨b, off, rfl, hc⟩
  · simp at hr
  · exact ⟨b, off, rfl, hc i r hr⟩
variable {H : Type} {enc : TypeId × Value → H} {W : World} {x : DataW H × List MemPlace}
theorem open_inums {fuel : Nat} {a : Option Addr} {len cap : Nat} (h : DataW.trod enc Tryz.prog W 0 (fun _ => true) true fuel 52 (Value.slice a len cap).cells.toList = some x) :
    ∃ l : List Int, len = l.length ∧ l.length ≤ 9223372036854775807 ∧ INS W a l := by
  rcases open_ints Tryz.underlying52 Tryz.underlying3 (show Tryz.prog.cellsOf 3 = 1 by kernel_rfl) h with ⟨hcs, _⟩ | ⟨b, n, c, zs, hcs, _, hl, hm, hz, _, hcell, _⟩
  · simp [Value.cells] at hcs
    obtain ⟨rfl, rfl, rfl⟩ := hcs
    exact ⟨[], rfl, by simp, .inl rfl⟩
  · simp [Value.cells] at hcs
    obtain ⟨rfl, rfl, rfl⟩ := hcs
    simp only [if_true] at hz
    unfold maxLen at hm
    refine ⟨zs.take len, by simp; omega, by simp; omega, ?_⟩
    by_cases h0 : len = 0
    · subst h0; exact .inl (by simp)
    · obtain ⟨blk, off, rfl, hc⟩ := Go.ints_at hcell (by omega)
      refine .inr ⟨blk, off, rfl, fun i r hr => ?_⟩
      have hi : i < len := by
        have := (List.getElem?_eq_some_iff.1 hr).1
        simp at this
        omega
      rw [hc i (by omega)]
      rw [List.getElem?_take_of_lt hi] at hr
      simp [List.getD, hr]
end
open Go.RowKit
/-- A number brought between nothing and h. -/
theorem within0_any (n : Int) (h : Nat) (hh : h ≤ 4294967296) (w : World) :
    Calls Tryz.prog 21 #[.int .i64 n, .int .i64 0, .int .i64 (h : Nat)] w fun e w' => (∃ k : Nat, k ≤ h ∧ e = .returned (.int .i64 k)) ∧ w' = w := by
  have h1 : ((h : Int) + 1 == 0) = false := by simp; omega
  have t1 : n.tmod ((h : Int) + 1) < (h : Int) + 1 := Int.tmod_lt_of_pos _ (by omega)
  have t2 : -((h : Int) + 1) < n.tmod ((h : Int) + 1) := by
    have := Int.lt_tmod_of_pos n (b := (h : Int) + 1) (by omega)
    omega
  by_cases hp : n.tmod ((h : Int) + 1) < 0
  · go_enter Tryz.func21, Tryz.ntmps21
    go_wp2
    go_ret
    exact ⟨⟨(n.tmod ((h : Int) + 1) + h + 1).toNat, by omega, by congr 2; simp; omega⟩, rfl⟩
  · have hp' : 0 ≤ n.tmod ((h : Int) + 1) := by omega
    clear hp
    go_enter Tryz.func21, Tryz.ntmps21
    go_wp2
    go_ret
    exact ⟨⟨(n.tmod ((h : Int) + 1)).toNat, by omega, by congr 2; simp; omega⟩, rfl⟩
end Go.Proofs.YtplmmamebfpcjaaGreatDoor
end
section
/- Aids for FileTurned's walk. -/
namespace Go.Proofs.YtplmmamebfpcjaaGreatDoor.Oc
open Go.RowKit Go.Joins
set_option linter.unusedVariables false
set_option maxRecDepth 100000
/-- Onto what is owned: bytes, very many too. -/
theorem run_own_wide (W : World) (base : Nat) (v : Value) (l r : List UInt8) (a : Option Addr) (cap : Nat) (hown : OwnS W base v l) (h : BS W a r) (hnil : a = none → cap = 0) (hb : base ≤ W.heap.size)
    (hsz : l.length + r.length ≤ 140737493551616) :
    ∃ v' w', (Builtin.append_ #[32, 32] 32 #[v, .slice a r.length cap]).run Tryz.prog W = .ok v' w' ∧ OwnS w' base v' (l ++ r) ∧ Below base W w' := by
  obtain ⟨i0, hi, hz0, hz1, hz2⟩ := info_parts info5
  cases a with
  | none =>
    have hr : r = [] := by
      rcases h with h | ⟨b, off, h, _⟩
      · exact h
      · cases h
    subst hr
    rw [hnil rfl]
    exact ⟨v, W, run_append_owned_none (P := Tryz.prog) W base 32 32 5 i0 1 Tryz.underlying32 hi v _ _ hown, by rw [List.append_nil]; exact hown, Below.refl _ _⟩
  | some x =>
    obtain ⟨v', w', h1, h2, h3, _⟩ := run_append_own_wide (P := Tryz.prog) W base 32 32 5 i0 (.int .u8 0) 1 1 Tryz.underlying32 hi hz0 hz1 hz2 rfl (by decide) v l.length (cellsOf l) hown x r.length cap (cellsOf r) (by rw [cellsOf_length, Nat.mul_one]) h.cells (cellsOf_one r) (by unfold maxLen; omega) (by omega) hb
    refine ⟨v', w', h1, ?_, (Below.refl base W).grown h3 hb (fun k hk => (hown.lt k hk).1)⟩
    unfold OwnS
    rw [List.length_append, cellsOf_append]
    exact h2
theorem own_flip {wr : World} {base g n c2 : Nat} {C : List UInt8} (j q : Nat) (hown : OwnS wr base (.slice (some ⟨g, 0, none⟩) n c2) C) (hCl : C.length = n) (hj : j < n) (hq : q < 8) (x : Nat) (hx : x = (C.getD j 0).toNat) :
    OwnS (wr.setCell ⟨g, j, none⟩ (.int .u8 (bits BinOp.xor IntKind.u8 (x : Int) (2 ^ q % 256)))) base (.slice (some ⟨g, 0, none⟩) n c2) (C.set j (UInt8.ofNat ((C.getD j 0).toNat ^^^ 2 ^ q))) := by
  have hO : wr.ownsRow base 5 1 (.slice (some ⟨g, 0, none⟩) n c2) n (cellsOf C) := by unfold OwnS at hown; rw [hCl] at hown; exact hown
  have h1 := (World.ownsRow.stored hO j (.int .u8 (bits BinOp.xor IntKind.u8 (x : Int) (2 ^ q % 256)))).1
  have hx8 : x < 256 := by rw [hx]; exact UInt8.toNat_lt _
  have hq8 : 2 ^ q < 2 ^ 8 := Nat.pow_lt_pow_right (by omega) hq
  have e1 : ((2 : Int) ^ q % 256) = ((2 ^ q : Nat) : Int) := by
    have : ((2 : Int) ^ q) = ((2 ^ q : Nat) : Int) := by rw [Int.natCast_pow]; rfl
    rw [this]; exact Int.emod_eq_of_lt (Int.natCast_nonneg _) (Int.ofNat_lt.2 hq8)
  have hy : x ^^^ 2 ^ q < 256 := Nat.xor_lt_two_pow (n := 8) hx8 hq8
  rw [e1, u8_xor_nat x (2 ^ q) hx8 hq8] at h1 ⊢
  have e2 : ((x ^^^ 2 ^ q : Nat) : Int) = ((UInt8.ofNat ((C.getD j 0).toNat ^^^ 2 ^ q)).toNat : Int) := by
    rw [UInt8.toNat_ofNat', ← hx, Nat.mod_eq_of_lt hy]
  rw [e2] at h1 ⊢
  rw [cellsOf_set] at h1
  unfold OwnS
  rw [List.length_set, hCl]
  exact h1
theorem own_nought (W : World) : OwnS (W.alloc (.cells #[] 5 (0, 0))) W.heap.size (.slice (some ⟨W.heap.size, 0, none⟩) 0 0) [] :=
  ⟨rfl, .inr ⟨W.heap.size, 0, #[], rfl, Nat.le_refl _, (by show (W.heap.push _)[W.heap.size]? = some _; simp), Nat.le_refl _, by decide, rfl, rfl⟩⟩
/-- A byte of one's own, and that it may be written. -/
theorem own_at {w : World} {base g n c : Nat} {L : List UInt8} (h : OwnS w base (.slice (some ⟨g, 0, none⟩) n c) L) (hn : L.length = n) (j : Nat) (hj : j < n) : w.cell? ⟨g, j, none⟩ = some (.int .u8 ((L.getD j 0).toNat : Int)) ∧ w.frozen? ⟨g, j, none⟩ = false := by
  have hO : w.ownsRow base 5 1 (.slice (some ⟨g, 0, none⟩) n c) n (cellsOf L) := by unfold OwnS at h; rw [hn] at h; exact h
  exact ⟨by rw [World.ownsRow.cellAt hO _ (by omega)]; exact cellsOf_get L _ (by omega), World.ownsRow.frozenAt hO _⟩
end Go.Proofs.YtplmmamebfpcjaaGreatDoor.Oc
namespace Go.Proofs.YtplmmamebfpcjaaGreatDoor
open Oc
set_option linter.unusedVariables false
theorem file_32 {ws : List ByteArray} {ms : List Mg} {A B C : List Sp} (hk : MOk ws ms A B C) : 32 ≤ (fileF ws ms A B C).length := by
  have h := (check_pass hk.cls).2
  have hC : 1 ≤ C.length := by
    cases C with
    | nil => simp [blankB, inB] at h
    | cons x l => simp
  unfold fileF bodyF
  simp only [List.length_append, spansF_len, be4_length]
  have e : magicL.length = 4 := rfl
  omega
end Go.Proofs.YtplmmamebfpcjaaGreatDoor
end
section
/- FileTurned: the walk. -/
namespace Go.Proofs.YtplmmamebfpcjaaGreatDoor
open Go.RowKit Go.Sort Go.Joins
set_option linter.unusedVariables false
set_option maxRecDepth 100000 in
set_option maxHeartbeats 4000000 in
theorem fturn_walk (aw am a b c : Option Addr) (cw cm ca cb cc : Nat) (ws : List ByteArray) (ms : List Mg) (A B C : List Sp) (ba : Option Addr) (bc : Nat) (bl : List Int) (fa : Option Addr) (fc : Nat) (l : List UInt8) (w : World) (hwf : MWf ms) (hn : ws.length ≤ 8796093022208 ∧ ms.length ≤ 5864062014805 ∧ A.length ≤ 17592186044416 ∧ B.length ≤ 17592186044416 ∧ C.length ≤ 17592186044416) (hW : WSP w aw ws) (hM : MSP w am ms) (hA : Lst w a ca A) (hB : Lst w b cb B) (hC : Lst w c cc C) (hbl : bl.length ≤ 9223372036854775807) (hI : INS w ba bl) (hlen : l.length ≤ 140737488351232) (hf : Oc.BS w fa l) (hnil : fa = none → fc = 0) (hG : GL w) (hP : PT w) :
    Calls Tryz.prog 6 #[.agg #[.slice aw ws.length cw, .slice am ms.length cm, .slice a A.length ca, .slice b B.length cb, .slice c C.length cc], .slice ba bl.length bc, .slice fa l.length fc] w fun e w' => e = .returned (.bool true) ∧ Below w.heap.size w w' := by
  have hD := DBox.new w (.slice aw ws.length cw) (.slice am ms.length cm) (.slice a A.length ca) (.slice b B.length cb) (.slice c C.length cc)
  have hb0 := box_below w (.cells #[.slice aw ws.length cw, .slice am ms.length cm, .slice a A.length ca, .slice b B.length cb, .slice c C.length cc] 26)
  have HW : Hid (WSP w aw ws) := hW
  have HM : Hid (MSP w am ms) := hM
  have HA : Hid (Lst w a ca A) := hA
  have HB : Hid (Lst w b cb B) := hB
  have HC : Hid (Lst w c cc C) := hC
  have HG : Hid (GL w) := hG
  have HP : Hid (PT w) := hP
  have HF : Hid (Oc.BS w fa l) := hf
  have HI : Hid (INS w ba bl) := hI
  clear hW hM hA hB hC hG hP hf hI
  have x0 := hD.c0
  have x1 := hD.c1
  have x2 := hD.c2
  have x3 := hD.c3
  have x4 := hD.c4
  go_enter Tryz.func6, Tryz.ntmps6
  go_wp2_with fail
  obtain ⟨Y, hY⟩ : ∃ Y, Y = w.alloc (.cells #[.slice aw ws.length cw, .slice am ms.length cm, .slice a A.length ca, .slice b B.length cb, .slice c C.length cc] 26) := ⟨_, rfl⟩
  rw [← hY] at hb0 hD ⊢
  clear hY x0 x1 x2 x3 x4 hD
  refine (keepOf_any aw am a b c cw cm ca cb cc ws ms A B C Y hwf (by omega) (HW.out.below hb0) (HM.out.below hb0) (HA.out.below hb0) (HB.out.below hb0) (HC.out.below hb0) (HG.out.below hb0)).mono ?_
  rintro e w1 ⟨p, rfl, hp1, hp2, hb1⟩
  have B1 := hb0.trans (hb1.mono hb0.size)
  cases hU : upB ws ms A B C with
  | false =>
    obtain rfl := hp2 hU
    clear hp1 hp2 hU hb1 hb0 hn
    go_wp2_with fail
    refine (lawKnown_any w1 (HG.out.below B1) (HP.out.stays B1)).mono ?_
    rintro e w2 ⟨rfl, hb2⟩
    go_wp2_with fail
    go_ret
    exact ⟨rfl, B1.trans (hb2.mono B1.size)⟩
  | true =>
    obtain ⟨g, rfl, hMd⟩ := hp1 hU
    have hK := upB_ok hU
    have hcd : (checkD ws ms A B C).1 = 0 := by
      unfold upB at hU
      simp only [Bool.and_eq_true, decide_eq_true_eq] at hU
      exact hU.2
    obtain ⟨r0, hr0, -, -, -, -, -⟩ := load_file hcd
    have hpos := file_32 hK
    have hfl := file_len hK
    have HS := save_any g _ ws ms A B C w1 hK hMd
    obtain ⟨F, hF⟩ : ∃ F, F = fileF ws ms A B C := ⟨_, rfl⟩
    rw [← hF] at hpos hfl HS hr0
    have HR : Hid (loadR F = .ok r0) := hr0
    clear hp1 hp2 hU hb1 hb0 hK hMd hn hcd hF hr0 HW HM HA HB HC
    go_wp2_with fail
    refine HS.mono ?_
    rintro e w2 ⟨v, rfl, ho, hb2⟩
    obtain ⟨gs, cs, rfl, q1, q2, q3, q4, hbs⟩ := ho.form (by omega)
    have B2 := B1.trans (hb2.mono B1.size)
    obtain ⟨n, hn⟩ : ∃ n, n = F.length := ⟨_, rfl⟩
    rw [← hn] at hpos hfl q3 ⊢
    have HN : Hid (n = F.length) := hn
    have HF2 : Hid (Oc.BS w2 (some ⟨gs, 0, none⟩) F) := hbs
    have HB2 : Hid (Below w.heap.size w w2) := B2
    have d0 : decide ((n : Int) < 32) = false := decide_eq_false (by omega)
    have HWn : ∀ v wx, Calls Tryz.prog 21 #[.int .i64 v, .int .i64 0, .int .i64 (8 * (n : Int) - 1)] wx fun e w' => (∃ k : Nat, k ≤ 8 * n - 1 ∧ e = .returned (.int .i64 k)) ∧ w' = wx := fun v wx => by
      have h := within0_any v (8 * n - 1) (by omega) wx
      rwa [show ((8 * n - 1 : Nat) : Int) = 8 * (n : Int) - 1 by omega] at h
    clear HS ho hb2 hbs q1 q2 q4 hn B1 B2
    go_wp2_with fail
    clear d0
    go_loopw [11] (fun v wr => ∃ i : Nat, i ≤ 10 ∧ v = .int .i64 (i : Nat) ∧ Below w2.heap.size w2 wr) (fun v _ => 10 - (intOf v).toNat)
    case atStart => exact ⟨0, Nat.zero_le _, rfl, Below.refl _ _⟩
    case round =>
      obtain ⟨i, hi, rfl, hbr⟩ := hrel
      have HBR : Hid (Below w2.heap.size w2 wr) := hbr
      clear hbr
      have hINS := HI.out.below (HB2.out.trans (HBR.out.mono HB2.out.size))
      have fR := HF2.out.below HBR.out
      have ho0 := Oc.own_nought wr
      have hbx := box_below wr (.cells #[] 5 (0, 0))
      obtain ⟨E1, hX⟩ : ∃ E1, E1 = wr.alloc (.cells #[] 5 (0, 0)) := ⟨_, rfl⟩
      rw [← hX] at ho0 hbx
      have fX := fR.below hbx
      obtain ⟨v1, E2, ha, ho1, hb1⟩ := Oc.run_own_bytes E1 wr.heap.size _ [] F (some ⟨gs, 0, none⟩) cs ho0 fX (by intro h; cases h) hbx.size (by rw [← HN.out]; simp; omega)
      rw [← HN.out, hX] at ha
      rw [List.nil_append] at ho1
      have bE := hbx.trans hb1
      by_cases hc : i < bl.length ∧ i < 10
      · obtain ⟨hc1, hc2⟩ := hc
        have d1 : decide ((i : Int) < (bl.length : Int)) = true := decide_eq_true (by omega)
        have d2 : decide ((i : Int) < 10) = true := decide_eq_true (by omega)
        obtain ⟨s0, hs0⟩ : ∃ s0, bl[i]? = some s0 := ⟨_, List.getElem?_eq_getElem hc1⟩
        obtain ⟨sb, so, rfl, k0⟩ := hINS.at_ hs0
        obtain ⟨gg, cg, rfl, t1, t2, t3, t4, -⟩ := ho1.form (by rw [← HN.out]; omega)
        rw [← HN.out] at ha t3 ho1
        have HO1 : Hid (Oc.OwnS E2 wr.heap.size (.slice (some ⟨gg, 0, none⟩) n cg) F) := ho1
        have HBE : Hid (Below wr.heap.size wr E2) := bE
        clear hs0 hINS fR ho0 hbx fX ho1 hb1 hX bE
        go_wp2_with fail
        refine (HWn s0 wr).mono ?_
        rintro e w3 ⟨⟨k, hk, rfl⟩, he⟩
        obtain rfl := he.symm
        obtain ⟨hcell, hfree⟩ := Oc.own_at HO1.out HN.out.symm (k / 8) (by omega)
        obtain ⟨x, hx⟩ : ∃ x, x = (F.getD (k / 8) 0).toNat := ⟨_, rfl⟩
        have hx8 : x < 256 := by rw [hx]; exact UInt8.toNat_lt _
        rw [← hx] at hcell
        have hfl2 := Oc.own_flip (k / 8) (k % 8) HO1.out HN.out.symm (by omega) (by omega) x hx
        obtain ⟨G, hGd⟩ : ∃ G, G = F.set (k / 8) (UInt8.ofNat ((F.getD (k / 8) 0).toNat ^^^ 2 ^ (k % 8))) := ⟨_, rfl⟩
        rw [← hGd] at hfl2
        obtain ⟨e1, hle1⟩ := load_flip (j := k / 8) (q := k % 8) HR.out (by rw [← HN.out]; omega) (by omega)
        rw [← hGd] at hle1
        obtain ⟨e2, hle2⟩ := load_cut (k := k / 8) HR.out (by rw [← HN.out]; omega)
        have hGn : G.length = n := by rw [hGd, List.length_set, ← HN.out]
        have hTn : (F.take (k / 8)).length = k / 8 := by rw [List.length_take, ← HN.out]; omega
        have hk8 : k / 8 ≤ cs := by omega
        have hk8n : k / 8 < n := by omega
        have HLE1 : Hid (loadR G = .error e1) := hle1
        have HLE2 : Hid (loadR (F.take (k / 8)) = .error e2) := hle2
        have HGN : Hid (G.length = n) := hGn
        have HTN : Hid ((F.take (k / 8)).length = k / 8) := hTn
        have HFL : Hid (Oc.OwnS (E2.setCell ⟨gg, k / 8, none⟩ (.int .u8 (bits BinOp.xor IntKind.u8 (x : Int) (2 ^ (k % 8) % 256)))) wr.heap.size (.slice (some ⟨gg, 0, none⟩) n cg) G) := hfl2
        clear hx hGd hle1 hle2 hGn hTn hfl2
        go_wp2_with (at_builtin; refine wpList_append_run rfl (.tmp 56) (.tmp 57) 32 32 rfl _ _ rfl rfl _ E2 ha ?_; clear ha)
        have BE3 : Below wr.heap.size wr (E2.setCell ⟨gg, k / 8, none⟩ (.int .u8 (bits BinOp.xor IntKind.u8 (x : Int) (2 ^ (k % 8) % 256)))) := HBE.out.setCell (p := ⟨gg, k / 8, none⟩) t1 _
        obtain ⟨E3, hE3⟩ : ∃ E3, E3 = E2.setCell ⟨gg, k / 8, none⟩ (.int .u8 (bits BinOp.xor IntKind.u8 (x : Int) (2 ^ (k % 8) % 256))) := ⟨_, rfl⟩
        have HFL := HFL.out
        rw [← hE3] at BE3 HFL ⊢
        obtain ⟨_, _, hv, _, _, _, _, hbs⟩ := HFL.form (by rw [HGN.out]; omega)
        simp only [Value.slice.injEq, Option.some.injEq, Addr.mk.injEq] at hv
        obtain ⟨⟨rfl, -⟩, -, rfl⟩ := hv
        have B3 := HB2.out.trans ((HBR.out.trans (BE3.mono HBR.out.size)).mono HB2.out.size)
        have H := load_any (some ⟨gg, 0, none⟩) cg G E3 (by rw [HGN.out]; omega) (by rw [HGN.out]; exact t3) hbs (HG.out.below B3)
        rw [HGN.out] at H
        clear hE3 hbs HFL hcell hfree HBE HO1
        refine H.mono ?_
        rintro e w4 ⟨hq, hb4⟩
        obtain ⟨N1, rfl, -, -⟩ := loadQ_err HLE1.out hq
        have BR4 := HBR.out.trans ((BE3.trans (hb4.mono BE3.size)).mono HBR.out.size)
        have B4 := HB2.out.trans (BR4.mono HB2.out.size)
        have H := load_any (some ⟨gs, 0, none⟩) cs (F.take (k / 8)) w4 (by rw [HTN.out]; omega) (by rw [HTN.out]; exact hk8) ((HF2.out.below BR4).take (k / 8)) (HG.out.below B4)
        rw [HTN.out] at H
        clear hq hb4 BE3 B3
        go_wp2_with fail
        refine H.mono ?_
        rintro e w5 ⟨hq, hb5⟩
        obtain ⟨N2, rfl, -, -⟩ := loadQ_err HLE2.out hq
        have BR5 := BR4.trans (hb5.mono BR4.size)
        clear hq hb5 BR4 B4 H
        go_wp2_with fail
        exact ⟨⟨i + 1, by omega, by go_num, BR5⟩, by simp only [intOf]; omega⟩
      · have hend : (¬ i < bl.length) ∨ (i < bl.length ∧ ¬ i < 10) := by omega
        obtain ⟨v2, E4, ha2, ho2, hb2⟩ := Oc.run_own_wide E2 wr.heap.size v1 F l fa fc ho1 ((HF.out.below (HB2.out.trans (HBR.out.mono HB2.out.size))).below bE) hnil bE.size (by rw [← HN.out]; omega)
        obtain ⟨gg, cg, rfl, t1, t2, t3, t4, -⟩ := ho1.form (by rw [← HN.out]; omega)
        rw [← HN.out] at ha ha2 t3
        have hFl : (F ++ l).length = n + l.length := by rw [List.length_append, ← HN.out]
        obtain ⟨gh, ch, rfl, u1, u2, u3, u4, fu⟩ := ho2.form (by rw [hFl]; omega)
        rw [hFl] at ha2 u3
        have BR5 := HBR.out.trans ((bE.trans hb2).mono HBR.out.size)
        have B5 := HB2.out.trans (BR5.mono HB2.out.size)
        have H := load_any (some ⟨gh, 0, none⟩) ch (F ++ l) E4 (by rw [hFl]; omega) (by rw [hFl]; exact u3) fu (HG.out.below B5)
        rw [hFl] at H
        obtain ⟨nl, hnl⟩ : ∃ nl, nl = n + l.length := ⟨_, rfl⟩
        have hE : (l.length = 0 → loadR (F ++ l) = .ok r0) ∧ (l.length ≠ 0 → ∃ e, loadR (F ++ l) = .error e) := by
          refine ⟨fun h => ?_, fun h => load_longer HR.out (fun h2 => h (by rw [h2]; rfl))⟩
          rw [List.length_eq_zero_iff.1 h, List.append_nil]
          exact HR.out
        have HE := Lib.hid hE
        have HK := fun wx (hb : Below w.heap.size w wx) => lawKnown_any wx (HG.out.below hb) (HP.out.stays hb)
        have HX : Hid (E1 = wr.alloc (.cells #[] 5 (0, 0))) := hX
        clear hc hINS fR ho0 hbx fX ho1 hb1 hX bE hE ho2 hb2 fu hFl HB2 BR5
        rcases hend with h | ⟨h, h2⟩
        all_goals
          go_wp2_with (first | (at_builtin; refine wpList_append_run rfl (.tmp 90) (.tmp 91) 32 32 rfl _ _ rfl rfl _ E2 ha ?_; clear ha) | (at_builtin; refine wpList_append_run rfl (.tmp 92) (.tmp 93) 32 32 rfl _ _ rfl rfl _ E4 ha2 ?_; clear ha2))
          refine H.mono ?_
          rintro e w6 ⟨hq, hb6⟩
          have B6 := B5.trans (hb6.mono B5.size)
          clear H hb6
          by_cases hz : l.length = 0
          · obtain ⟨gx, rfl, -⟩ := loadQ_ok (HE.out.1 hz) hq
            clear hq
            rw [hz]
            go_wp2_with fail
            refine (HK w6 B6).mono ?_
            rintro e w7 ⟨rfl, hb7⟩
            go_wp2_with fail
            go_ret
            exact ⟨rfl, B6.trans (hb7.mono B6.size)⟩
          · obtain ⟨ex, hex⟩ := HE.out.2 hz
            obtain ⟨N3, rfl, -, -⟩ := loadQ_err hex hq
            have dz : ((l.length : Int) == 0) = false := beq_eq_false_iff_ne.2 (by omega)
            clear hq hex hz
            go_wp2_with fail
            refine (HK w6 B6).mono ?_
            rintro e w7 ⟨rfl, hb7⟩
            go_wp2_with fail
            go_ret
            exact ⟨rfl, B6.trans (hb7.mono B6.size)⟩
end Go.Proofs.YtplmmamebfpcjaaGreatDoor
end
