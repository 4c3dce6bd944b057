/- The law's reads, at a recipe that is read; known. -/
import Derived.Test.YtonbfcpbgkpbaaaQParseLaw
namespace Go.Proofs.Ytonbfcpbgkpbaaa
open Go.RowKit Go.Sort Go.Joins
set_option linter.unusedVariables false
set_option linter.unusedSimpArgs false
set_option maxRecDepth 100000
theorem OwnG.wsp {w : World} {base : Nat} {a : Option Addr} {c : Nat} {l : List (List UInt8)} (h : OwnG 9 1 encS1 w base (.slice a l.length c) l) : WSP w a (l.map textOf) := by
  cases l with
  | nil => exact .inl rfl
  | cons s l =>
    obtain ⟨b, ha, -, -, -⟩ := OwnG.row (k := 1) (enc := encS1) (fun _ => rfl) h (i := 0) rfl
    refine .inr ⟨b, 0, ha, fun i x hx => ?_⟩
    rw [List.getElem?_map] at hx
    cases hy : (s :: l)[i]? with
    | none => rw [hy] at hx; cases hx
    | some y =>
      rw [hy] at hx
      obtain rfl : textOf y = x := Option.some.inj hx
      obtain ⟨b', ha', -, -, hc⟩ := OwnG.row (k := 1) (enc := encS1) (fun _ => rfl) h hy
      rw [ha] at ha'
      cases ha'
      have := hc 0 (by omega)
      rw [Nat.mul_one, Nat.add_zero] at this
      rw [Nat.zero_add]
      exact this
theorem OwnG.msp {w : World} {base : Nat} {a : Option Addr} {c : Nat} {l : List Mg} (h : OwnG 59 3 encG w base (.slice a l.length c) l) : MSP w a l := by
  cases l with
  | nil => exact .inl rfl
  | cons s l =>
    obtain ⟨b, ha, -, -, -⟩ := OwnG.row (k := 3) (enc := encG) (fun _ => rfl) h (i := 0) rfl
    refine .inr ⟨b, 0, ha, fun i x hx => ?_⟩
    obtain ⟨b', ha', -, -, hc⟩ := OwnG.row (k := 3) (enc := encG) (fun _ => rfl) h hx
    rw [ha] at ha'
    cases ha'
    rw [Nat.zero_add]
    exact ⟨(hc 0 (by omega)).trans rfl, (hc 1 (by omega)).trans rfl, (hc 2 (by omega)).trans rfl⟩
theorem OwnG.sps {w : World} {base : Nat} {a : Option Addr} {c : Nat} {l : List Sp} (h : OwnG 61 2 encS w base (.slice a l.length c) l) : SPS w a l := by
  cases l with
  | nil => exact .inl rfl
  | cons s l =>
    obtain ⟨b, ha, -, -, -⟩ := OwnG.row (k := 2) (enc := encS) (fun _ => rfl) h (i := 0) rfl
    refine .inr ⟨b, 0, ha, fun i x hx => ?_⟩
    obtain ⟨b', ha', -, -, hc⟩ := OwnG.row (k := 2) (enc := encS) (fun _ => rfl) h hx
    rw [ha] at ha'
    cases ha'
    rw [Nat.zero_add]
    exact ⟨(hc 0 (by omega)).trans rfl, (hc 1 (by omega)).trans rfl⟩
set_option maxHeartbeats 4000000 in
theorem reads_ok (src : ByteArray) (d : PD) (b0 b1 b2 b3 b4 : Option Addr) (d0 d1 d2 d3 d4 : Nat) (w : World) (hs : src.size ≤ 4194304) (hp : parseA (tl src) = .ok d) (hn : d.W.length ≤ 4611686018427387904 ∧ d.M.length ≤ 4611686018427387904 ∧ d.A.length ≤ 4611686018427387904 ∧ d.B.length ≤ 4611686018427387904 ∧ d.C.length ≤ 4611686018427387904)
    (k0 : WSP w b0 (d.W.map textOf)) (k1 : MSP w b1 d.M) (k2 : SPS w b2 d.A) (k3 : SPS w b3 d.B) (k4 : SPS w b4 d.C) :
    Calls Try.prog 7 #[.string src, .agg #[.slice b0 d.W.length d0, .slice b1 d.M.length d1, .slice b2 d.A.length d2, .slice b3 d.B.length d3, .slice b4 d.C.length d4], .agg #[.int .i64 0, .int .i64 0, .int .i64 0], .int .i64 0] w fun e w' => e = .returned (.bool true) ∧ Below w.heap.size w w' := by
  have HP := fun wx => parse_any src (fun _ => (0, 0)) wx (by omega) (fun y hy => by rw [hp] at hy; cases hy)
  rw [hp] at HP
  obtain ⟨nW, hnW⟩ : ∃ n, n = d.W.length := ⟨_, rfl⟩
  obtain ⟨nM, hnM⟩ : ∃ n, n = d.M.length := ⟨_, rfl⟩
  obtain ⟨nA, hnA⟩ : ∃ n, n = d.A.length := ⟨_, rfl⟩
  obtain ⟨nB, hnB⟩ : ∃ n, n = d.B.length := ⟨_, rfl⟩
  obtain ⟨nC, hnC⟩ : ∃ n, n = d.C.length := ⟨_, rfl⟩
  have HN := Lib.hid hn
  have K0 := Lib.hid k0
  have K1 := Lib.hid k1
  have K2 := Lib.hid k2
  have K3 := Lib.hid k3
  have K4 := Lib.hid k4
  have HNW := Lib.hid hnW
  have HNM := Lib.hid hnM
  have HNA := Lib.hid hnA
  have HNB := Lib.hid hnB
  have HNC := Lib.hid hnC
  rw [← hnW, ← hnM, ← hnA, ← hnB, ← hnC]
  have bx1 := box_below w (.cells #[.slice b0 nW d0, .slice b1 nM d1, .slice b2 nA d2, .slice b3 nB d3, .slice b4 nC d4] 27)
  have hb1 := heap_alloc_new w (.cells #[.slice b0 nW d0, .slice b1 nM d1, .slice b2 nA d2, .slice b3 nB d3, .slice b4 nC d4] 27)
  obtain ⟨w1, hw1⟩ : ∃ w1, w1 = w.alloc (.cells #[.slice b0 nW d0, .slice b1 nM d1, .slice b2 nA d2, .slice b3 nB d3, .slice b4 nC d4] 27) := ⟨_, rfl⟩
  have hs1 : w1.heap.size = w.heap.size + 1 := by rw [hw1]; simp
  rw [← hw1] at bx1 hb1
  have bx2 := box_below w1 (.cells #[.int .i64 0, .int .i64 0, .int .i64 0] 29)
  have hb2 := heap_alloc_new w1 (.cells #[.int .i64 0, .int .i64 0, .int .i64 0] 29)
  obtain ⟨w2, hw2⟩ : ∃ w2, w2 = w1.alloc (.cells #[.int .i64 0, .int .i64 0, .int .i64 0] 29) := ⟨_, rfl⟩
  have hs2 : w2.heap.size = w.heap.size + 2 := by rw [hw2]; simp; omega
  rw [← hw2] at bx2 hb2
  rw [hs1] at hb2
  have hb1 := (bx2.block w.heap.size (by omega)).trans hb1
  have HB2 := Lib.hid (bx1.trans (bx2.mono bx1.size))
  have HW1 := Lib.hid hw1
  have HW2 := Lib.hid hw2
  have HD1 := Lib.hid hb1
  have HD2 := Lib.hid hb2
  have HS2 := Lib.hid hs2
  clear hp hn k0 k1 k2 k3 k4 hnW hnM hnA hnB hnC bx1 bx2 hw1 hw2 hs1 hs2 hb1 hb2
  go_enter Try.func7, Try.ntmps7
  go_wp2_with fail
  rw [← HW1.out, ← HW2.out]
  refine (HP _).mono ?_
  rintro e w3 ⟨hb3, vW, vM, vA, vB, vC, rfl, hO⟩
  obtain ⟨xW, cW, rfl⟩ := hO.oW.slice
  obtain ⟨xM, cM, rfl⟩ := hO.oM.slice
  obtain ⟨xA, cA, rfl⟩ := hO.oA.slice
  obtain ⟨xB, cB, rfl⟩ := hO.oB.slice
  obtain ⟨xC, cC, rfl⟩ := hO.oC.slice
  have j0 := hO.oW.wsp
  have j1 := hO.oM.msp
  have j2 := hO.oA.sps
  have j3 := hO.oB.sps
  have j4 := hO.oC.sps
  have bb2 := HB2.out
  have hD1 := (hb3.block w.heap.size (by have := HS2.out; omega)).trans HD1.out
  have hD2 := (hb3.block (w.heap.size + 1) (by have := HS2.out; omega)).trans HD2.out
  have hb3' := bb2.trans (hb3.mono bb2.size)
  have bx4 := box_below w3 (.cells #[.slice xW d.W.length cW, .slice xM d.M.length cM, .slice xA d.A.length cA, .slice xB d.B.length cB, .slice xC d.C.length cC] 27)
  have bx5 := bx4.trans ((box_below (w3.alloc (.cells #[.slice xW d.W.length cW, .slice xM d.M.length cM, .slice xA d.A.length cA, .slice xB d.B.length cB, .slice xC d.C.length cC] 27)) (.cells #[.int .i64 0, .int .i64 0, .int .i64 0] 53)).mono bx4.size)
  have i0 := (K0.out.below hb3').below bx5
  have i1 := (K1.out.below hb3').below bx5
  have i2 := (K2.out.below hb3').below bx5
  have i3 := (K3.out.below hb3').below bx5
  have i4 := (K4.out.below hb3').below bx5
  have j0 := j0.below bx5
  have j1 := j1.below bx5
  have j2 := j2.below bx5
  have j3 := j3.below bx5
  have j4 := j4.below bx5
  have hE1 := (bx5.block w.heap.size (by have := hb3'.size; have := (Array.getElem?_eq_some_iff.1 hD1).1; omega)).trans hD1
  have hE2 := (bx5.block (w.heap.size + 1) (by have := (Array.getElem?_eq_some_iff.1 hD2).1; omega)).trans hD2
  have hlen : (d.W.map textOf).length = d.W.length := by simp
  have HSM := keepSame_any xW xM xA xB xC b0 b1 b2 b3 b4 cW cM cA cB cC d0 d1 d2 d3 d4 (d.W.map textOf) d.M d.A d.B d.C _ (by rw [hlen]; exact HN.out) j0 j1 j2 j3 j4 i0 i1 i2 i3 i4
  rw [hlen, ← HNW.out, ← HNM.out, ← HNA.out, ← HNB.out, ← HNC.out] at HSM
  rw [← HNW.out, ← HNM.out, ← HNA.out, ← HNB.out, ← HNC.out] at bx5 hE1 hE2
  have HBX := Lib.hid (hb3'.trans (bx5.mono hb3'.size))
  have y0 : ((w3.alloc (.cells #[.slice xW nW cW, .slice xM nM cM, .slice xA nA cA, .slice xB nB cB, .slice xC nC cC] 27)).alloc (.cells #[.int .i64 0, .int .i64 0, .int .i64 0] 53)).cell? ⟨w.heap.size, 0, none⟩ = some (.slice b0 nW d0) := (cell_of_block hE1 0).trans rfl
  have y1 : ((w3.alloc (.cells #[.slice xW nW cW, .slice xM nM cM, .slice xA nA cA, .slice xB nB cB, .slice xC nC cC] 27)).alloc (.cells #[.int .i64 0, .int .i64 0, .int .i64 0] 53)).cell? ⟨w.heap.size, 1, none⟩ = some (.slice b1 nM d1) := (cell_of_block hE1 1).trans rfl
  have y2 : ((w3.alloc (.cells #[.slice xW nW cW, .slice xM nM cM, .slice xA nA cA, .slice xB nB cB, .slice xC nC cC] 27)).alloc (.cells #[.int .i64 0, .int .i64 0, .int .i64 0] 53)).cell? ⟨w.heap.size, 2, none⟩ = some (.slice b2 nA d2) := (cell_of_block hE1 2).trans rfl
  have y3 : ((w3.alloc (.cells #[.slice xW nW cW, .slice xM nM cM, .slice xA nA cA, .slice xB nB cB, .slice xC nC cC] 27)).alloc (.cells #[.int .i64 0, .int .i64 0, .int .i64 0] 53)).cell? ⟨w.heap.size, 3, none⟩ = some (.slice b3 nB d3) := (cell_of_block hE1 3).trans rfl
  have y4 : ((w3.alloc (.cells #[.slice xW nW cW, .slice xM nM cM, .slice xA nA cA, .slice xB nB cB, .slice xC nC cC] 27)).alloc (.cells #[.int .i64 0, .int .i64 0, .int .i64 0] 53)).cell? ⟨w.heap.size, 4, none⟩ = some (.slice b4 nC d4) := (cell_of_block hE1 4).trans rfl
  have z0 : ((w3.alloc (.cells #[.slice xW nW cW, .slice xM nM cM, .slice xA nA cA, .slice xB nB cB, .slice xC nC cC] 27)).alloc (.cells #[.int .i64 0, .int .i64 0, .int .i64 0] 53)).cell? ⟨w.heap.size + 1, 0, none⟩ = some (.int .i64 0) := (cell_of_block hE2 0).trans rfl
  have z1 : ((w3.alloc (.cells #[.slice xW nW cW, .slice xM nM cM, .slice xA nA cA, .slice xB nB cB, .slice xC nC cC] 27)).alloc (.cells #[.int .i64 0, .int .i64 0, .int .i64 0] 53)).cell? ⟨w.heap.size + 1, 1, none⟩ = some (.int .i64 0) := (cell_of_block hE2 1).trans rfl
  have z2 : ((w3.alloc (.cells #[.slice xW nW cW, .slice xM nM cM, .slice xA nA cA, .slice xB nB cB, .slice xC nC cC] 27)).alloc (.cells #[.int .i64 0, .int .i64 0, .int .i64 0] 53)).cell? ⟨w.heap.size + 1, 2, none⟩ = some (.int .i64 0) := (cell_of_block hE2 2).trans rfl
  rw [← HNW.out, ← HNM.out, ← HNA.out, ← HNB.out, ← HNC.out]
  clear j0 j1 j2 j3 j4 i0 i1 i2 i3 i4 hE1 hE2 hD1 hD2 bx4 bx5 hO hb3 hb3' bb2 hlen HP
  go_wp2_with fail
  refine HSM.mono ?_
  rintro e w6 ⟨rfl, hb6⟩
  go_wp2_with fail
  go_ret
  exact ⟨rfl, HBX.out.trans (hb6.mono HBX.out.size)⟩
end Go.Proofs.Ytonbfcpbgkpbaaa
