import Derived.Test.YtonbfcpbgkpbaaaGreatDoorJ11
import Derived.Test.YtonbfcpbgkpbaaaGreatDoorJ6
import Derived.Test.YtonbfcpbgkpbaaaGreatDoorJ1
import Derived.Laws.IdiomStrings
import Derived.Laws.RangeAny
import Derived.Test.YtonbfcpbgkpbaaaGreatDoorJ2
import Derived.OwnWalk
section
/- recipe.areMade of none: its contract. -/
namespace Go.Proofs.YtonbfcpbgkpbaaaGreatDoor
open Go.RowKit Go.Sort Go.Joins
set_option linter.unusedVariables false
set_option linter.unusedSimpArgs false
set_option maxRecDepth 100000
theorem infoBool : (Tryz.prog.info? 4).map (fun i => (i.zero, i.size, i.bytes)) = some (some (.bool false), 1, 1) := by kernel_rfl
theorem make_bools : ∃ Z : Array Value, Z.size = 256 ∧ ∀ u : World, (Instr.makeSlice 76 (.int .i64 256) (.int .i64 256)).run Tryz.prog u = .ok (.slice (some ⟨u.heap.size, 0, none⟩) 256 256) (u.alloc (.cells Z 4)) := by
  obtain ⟨i0, hi, hz0, hz1, hz2⟩ := info_parts infoBool
  refine ⟨madeCells (Value.bool false).cells (256 * i0.size), by rw [hz1]; simp [madeCells], fun u => ?_⟩
  exact run_make (P := Tryz.prog) u 76 4 i0 _ Tryz.underlying76 hi hz0 .i64 .i64 256 256 (by omega) (Int.le_refl _) (by rw [hz2]; omega) (by omega)
/-- What stands between two marks. -/
def MR (w wr : World) : Prop := (∃ cur, wr.heap[w.heap.size]? = some (.cells cur 4 (0, 0)) ∧ cur.size = 256) ∧ wr.heap[w.heap.size + 1]? = some (.cells #[.slice (some ⟨w.heap.size, 0, none⟩) 256 256] 76 (0, 0)) ∧ Below w.heap.size w wr
theorem MR.step {w wr : World} (h : MR w wr) (k : Nat) (v : Value) : MR w (wr.setCell ⟨w.heap.size, k, none⟩ v) := by
  obtain ⟨⟨cur, h1, h2⟩, h3, h4⟩ := h
  refine ⟨⟨_, block_setCell h1 (i := k) v, ?_⟩, ?_, h4.setCell (p := ⟨w.heap.size, k, none⟩) (Nat.le_refl _) v⟩
  · simp [h2]
  · rw [Below.heap_setCell wr ⟨w.heap.size, k, none⟩ v (w.heap.size + 1) (by show w.heap.size + 1 ≠ w.heap.size; omega)]
    exact h3
set_option maxHeartbeats 2000000 in
theorem made_nil (wo : Value) (w : World) : Calls Tryz.prog 16 #[.slice none 0 0, wo] w fun e w' => e = .returned (.bool true) ∧ Below w.heap.size w w' := by
  obtain ⟨Z, hZ, hmk⟩ := make_bools
  have hM : MR w ((w.alloc (.cells Z 4)).alloc (.cells #[.slice (some ⟨w.heap.size, 0, none⟩) 256 256] 76)) := by
    refine ⟨⟨Z, ?_, hZ⟩, ?_, (box_below w _).trans ((box_below _ _).mono (by simp))⟩
    · rw [Below.heap_alloc _ _ _ (by simp)]
      exact heap_alloc_new w _
    · have := heap_alloc_new (w.alloc (.cells Z 4)) (.cells #[.slice (some ⟨w.heap.size, 0, none⟩) 256 256] 76)
      rwa [World.size_alloc] at this
  obtain ⟨X, hX⟩ : ∃ X, X = (w.alloc (.cells Z 4)).alloc (.cells #[.slice (some ⟨w.heap.size, 0, none⟩) 256 256] 76) := ⟨_, rfl⟩
  rw [← hX] at hM
  have HX := Lib.hid hX
  have HM := Lib.hid hM
  have hmf : ∀ (fn : Fn) (first cap : Array Value) (w : World), (Instr.makeFunc fn first cap).run Tryz.prog w = .ok (.func fn first cap) w := fun _ _ _ _ => rfl
  clear hX hM hZ
  go_enter Tryz.func16, Tryz.ntmps16
  go_wp2_with fail
  rw [← HX.out]
  clear hmk HX
  go_loopw [6, 16] (fun x i wr => ∃ k : Nat, k ≤ 256 ∧ i = .int .i64 (k : Nat) ∧ MR w wr) (fun _ i _ => 256 - (intOf i).toNat)
  case atStart => exact ⟨0, Nat.zero_le _, rfl, HM.out⟩
  case round =>
    obtain ⟨k, hk, rfl, hM⟩ := hrel
    by_cases hlt : k < 256
    · obtain ⟨⟨cur, h1, h2⟩, h3, h4⟩ := hM
      have HN := Lib.hid (MR.step ⟨⟨cur, h1, h2⟩, h3, h4⟩ k (.bool true))
      have c0 : wr.cell? ⟨w.heap.size + 1, 0, none⟩ = some (.slice (some ⟨w.heap.size, 0, none⟩) 256 256) := by rw [cell_of_block h3]; rfl
      obtain ⟨old, hold⟩ : ∃ old, wr.cell? ⟨w.heap.size, k, none⟩ = some old := ⟨cur[k], by rw [cell_of_block h1, Array.getElem?_eq_getElem]⟩
      have f0 : wr.frozen? ⟨w.heap.size, k, none⟩ = false := unfrozen_of_block h1 k
      clear h1 h2 h3 h4
      go_wp2_with fail
      go_roundw
      case rel => exact ⟨k + 1, by omega, by go_num, HN.out⟩
      case measure => simp only [intOf]; omega
    · obtain rfl : k = 256 := by omega
      have HB := Lib.hid hM.2.2
      clear hM
      go_wp2_with fail
      go_loopw [26] (fun i wx => i = .int .i64 0 ∧ wx = wr) (fun _ _ => 0)
      case atStart => exact ⟨rfl, rfl⟩
      case round =>
        obtain ⟨rfl, hw⟩ := hrel
        rw [hw]
        go_wp2_with fail
        go_ret
        exact ⟨rfl, HB.out⟩
end Go.Proofs.YtonbfcpbgkpbaaaGreatDoor
end
section
/- recipe.areMade of any merges: its contract. -/
namespace Go.Proofs.YtonbfcpbgkpbaaaGreatDoor
open Go.RowKit Go.Sort Go.Joins
set_option linter.unusedVariables false
set_option linter.unusedSimpArgs false
set_option maxRecDepth 100000
theorem wp_named9 {P : Program} {c : Code} {Q : Exit → Act → World → Prop} {a : Act} {w : World} (h : ∀ X, X = w → c.wp P Q a X) : c.wp P Q a w := h w rfl
theorem MSP.cellsAt {w : World} {a : Option Addr} {l : List Mg} (h : MSP w a l) {k : Nat} (hk : k < l.length) : ∃ b off, a = some ⟨b, off, none⟩ ∧ MgAt w b (off + k * 3) l[k] := by
  rcases h with h | ⟨b, off, ha, hc⟩
  · rw [h] at hk; simp at hk
  · exact ⟨b, off, ha, hc k l[k] (List.getElem?_eq_getElem hk)⟩
/-- May the word of an id be made so? -/
def cutOk (ws : List ByteArray) (x : Mg) : Bool := (cutP (wordF ws x.i.toNat) (wordF ws x.l.toNat)).2 && ((cutP (wordF ws x.i.toNat) (wordF ws x.l.toNat)).1.toList == (wordF ws x.r.toNat).toList)
def newId (n : Nat) (M : Nat → Bool) (i : Int) : Bool := decide (0 ≤ i) && decide (i < (n : Int)) && !M i.toNat
def madeF (ws : List ByteArray) (n : Nat) : List Mg → (Nat → Bool) → Bool
  | [], _ => true
  | x :: l, M => if newId n M x.i = true ∧ isMadeF n M x.l = true ∧ isMadeF n M x.r = true ∧ cutOk ws x = true then madeF ws n l (fun j => decide (j = x.i.toNat) || M j) else false
theorem Marks7.mark {w : World} {cb g n : Nat} {M : Nat → Bool} (h : Marks7 w cb g n M) (i : Nat) (hi : i < n) : Marks7 (w.setCell ⟨g, i, none⟩ (.bool true)) cb g n (fun j => decide (j = i) || M j) := by
  obtain ⟨cur, h1, h2⟩ := h.row
  have hne : cb ≠ g := by
    rintro rfl
    have h3 := h.at_
    rw [h1] at h3
    injection h3 with h3
    injection h3 with _ h3
    exact absurd h3 (by decide)
  refine ⟨(Below.heap_setCell w ⟨g, i, none⟩ _ cb hne).trans h.at_, _, block_setCell h1 (i := i) _, fun j hj => ?_⟩
  have hj2 := h2 j hj
  have hlt := (Array.getElem?_eq_some_iff.1 hj2).1
  by_cases hji : j = i
  · subst hji
    simp [hlt]
  · rw [Array.getElem?_setIfInBounds_ne (fun e => hji e.symm), hj2]
    simp [hji]
theorem make_marks (N : Nat) (hN : N ≤ 1000000256) : ∃ Z : Array Value, Z.size = N ∧ (∀ j, j < N → Z[j]? = some (.bool false)) ∧ ∀ u : World, (Instr.makeSlice 76 (.int .i64 (N : Nat)) (.int .i64 (N : Nat))).run Tryz.prog u = .ok (.slice (some ⟨u.heap.size, 0, none⟩) N N) (u.alloc (.cells Z 4)) := by
  obtain ⟨i0, hi, hz0, hz1, hz2⟩ := info_parts infoBool
  refine ⟨madeCells (Value.bool false).cells (N * i0.size), by rw [hz1]; simp [madeCells], fun j hj => ?_, fun u => ?_⟩
  · rw [hz1, Nat.mul_one]
    simp [madeCells, Value.cells, Nat.mod_one, hj]
  · have h := run_make (P := Tryz.prog) u 76 4 i0 _ Tryz.underlying76 hi hz0 .i64 .i64 (N : Int) (N : Int) (by omega) (Int.le_refl _) (by rw [hz2]; omega) (by omega)
    have e : ((N : Int)).toNat = N := by omega
    rw [e] at h
    exact h
theorem Marks7.cong {w : World} {cb g n : Nat} {M M' : Nat → Bool} (h : Marks7 w cb g n M) (he : ∀ j, M j = M' j) : Marks7 w cb g n M' := by
  have : M = M' := funext he
  rwa [← this]
theorem madeF_cons (ws : List ByteArray) (n : Nat) (x : Mg) (l : List Mg) (M : Nat → Bool) : madeF ws n (x :: l) M = if newId n M x.i = true ∧ isMadeF n M x.l = true ∧ isMadeF n M x.r = true ∧ cutOk ws x = true then madeF ws n l (fun j => decide (j = x.i.toNat) || M j) else false := rfl
theorem wordF_size (ws : List ByteArray) (h : ∀ x ∈ ws, x.size ≤ 4611686018427387904) (id : Nat) : (wordF ws id).size ≤ 4611686018427387904 := by
  unfold wordF
  split
  · show 1 ≤ _
    omega
  · by_cases hk : id - 256 < ws.length
    · rw [show ws.getD (id - 256) ⟨#[]⟩ = ws[id - 256] by simp [List.getD, hk]]
      exact h _ (List.getElem_mem hk)
    · rw [show ws.getD (id - 256) ⟨#[]⟩ = ⟨#[]⟩ by simp [List.getD, List.getElem?_eq_none (Nat.le_of_not_lt hk)]]
      show 0 ≤ _
      omega
set_option maxHeartbeats 8000000 in
theorem made_any (z : Nat) (am aw : Option Addr) (cm cw : Nat) (ms : List Mg) (ws : List ByteArray) (w : World) (hz : z < w.heap.size) (c0 : w.cell? ⟨z, 0, none⟩ = some (.slice aw ws.length cw)) (hW : WSP w aw ws) (hM : MSP w am ms) (hlen : ws.length = ms.length) (hn : ms.length ≤ 1000000000) (hbig : ∀ x ∈ ws, x.size ≤ 4611686018427387904) :
    Calls Tryz.prog 16 #[.slice am ms.length cm, .func (.func 14) #[] #[.pointer (some ⟨z, 0, none⟩)]] w fun e w' => e = .returned (.bool (madeF ws (256 + ms.length) ms (fun j => decide (j < 256)))) ∧ Below w.heap.size w w' := by
  obtain ⟨n, hln⟩ : ∃ n, n = ms.length := ⟨_, rfl⟩
  have HLN := Lib.hid hln
  have HC := Lib.hid c0
  have HW := Lib.hid hW
  have HM := Lib.hid hM
  have HLW := Lib.hid hlen
  have HBG := Lib.hid hbig
  have HZ := Lib.hid hz
  rw [← hln] at hn ⊢
  clear hln c0 hW hM hlen hbig hz
  have hmf : ∀ (fn : Fn) (first cap : Array Value) (w : World), (Instr.makeFunc fn first cap).run Tryz.prog w = .ok (.func fn first cap) w := fun _ _ _ _ => rfl
  obtain ⟨N, hN⟩ : ∃ N, N = 256 + n := ⟨_, rfl⟩
  have HN := Lib.hid hN
  have e256 : (256 : Int) + (n : Int) = (N : Nat) := by omega
  have hNb : N ≤ 1000000256 := by omega
  obtain ⟨Z, hZZ, hZ0, hmk⟩ := make_marks N hNb
  rw [← hN]
  clear hN
  go_enter Tryz.func16, Tryz.ntmps16
  go_wp2_with fail
  refine wp_named9 fun X hX => ?_
  have hK0 : Marks7 X (w.heap.size + 1) w.heap.size N (fun j => decide (j < 0)) := by
    rw [hX]
    refine ⟨by have := heap_alloc_new (w.alloc (.cells Z 4)) (.cells #[.slice (some ⟨w.heap.size, 0, none⟩) N N] 76); rwa [World.size_alloc] at this, Z, ?_, fun j hj => by rw [hZ0 j hj]; rfl⟩
    rw [Below.heap_alloc _ _ _ (by simp)]
    exact heap_alloc_new w _
  have hB0 : Below w.heap.size w X := by rw [hX]; exact (box_below w _).trans ((box_below _ _).mono (by simp))
  have HK0 := Lib.hid hK0
  have HB0 := Lib.hid hB0
  obtain ⟨g, hg⟩ : ∃ g, g = w.heap.size := ⟨_, rfl⟩
  have HG := Lib.hid hg
  obtain ⟨cb, hcb⟩ : ∃ cb, cb = w.heap.size + 1 := ⟨_, rfl⟩
  have HCB := Lib.hid hcb
  rw [← hcb, ← hg] at HK0
  rw [← hcb, ← hg]
  clear hX hK0 hB0 hZZ hZ0 hmk hg hcb
  go_loopw [6, 16] (fun x i wr => ∃ k : Nat, k ≤ 256 ∧ i = .int .i64 (k : Nat) ∧ Marks7 wr cb g N (fun j => decide (j < k)) ∧ Below w.heap.size w wr) (fun _ i _ => 256 - (intOf i).toNat)
  case atStart => exact ⟨0, Nat.zero_le _, rfl, HK0.out, HB0.out⟩
  case round =>
    obtain ⟨k, hk, rfl, hK, hb⟩ := hrel
    by_cases hlt : k < 256
    · have hkN : k < N := by have := HN.out; omega
      have c0 : wr.cell? ⟨cb, 0, none⟩ = some (.slice (some ⟨g, 0, none⟩) N N) := by rw [cell_of_block hK.at_]; rfl
      have ck := hK.cell hkN
      obtain ⟨old, hold⟩ : ∃ old, old = Value.bool (decide (k < k)) := ⟨_, rfl⟩
      rw [← hold] at ck
      have f0 : wr.frozen? ⟨g, k, none⟩ = false := by obtain ⟨cur, h1, _⟩ := hK.row; exact unfrozen_of_block h1 k
      have HK := Lib.hid ((hK.mark k hkN).cong (M' := fun j => decide (j < k + 1)) (fun j => by rw [Bool.eq_iff_iff]; simp; omega))
      have HB := Lib.hid (hb.setCell (p := ⟨g, k, none⟩) (by show w.heap.size ≤ g; have := HG.out; omega) (.bool true))
      clear hK hb hold
      go_wp2_with fail
      go_roundw
      case rel => exact ⟨k + 1, by omega, by go_num, HK.out, HB.out⟩
      case measure => simp only [intOf]; omega
    · obtain rfl : k = 256 := by omega
      have HK := Lib.hid hK
      have HB := Lib.hid hb
      clear hK hb HK0 HB0
      go_wp2_with fail
      obtain ⟨R, hR⟩ : ∃ R, R = madeF ws N ms (fun j => decide (j < 256)) := ⟨_, rfl⟩
      have HR := Lib.hid hR
      clear hR
      go_loopw [9, 10, 11, 26] (fun y s o i wx => ∃ (q : Nat) (M : Nat → Bool), q ≤ n ∧ i = .int .i64 (q : Nat) ∧ Marks7 wx cb g N M ∧ madeF ws N (ms.drop q) M = R ∧ Below w.heap.size w wx) (fun _ _ _ i _ => n - (intOf i).toNat)
      case atStart => exact ⟨0, _, Nat.zero_le _, rfl, HK.out, HR.out.symm, HB.out⟩
      case round =>
        obtain ⟨q, M, hq, rfl, hK1, hR1, hb1⟩ := hrel
        by_cases hlt : q < n
        · have hql : q < ms.length := by have := HLN.out; omega
          have hdrop : ms.drop q = ms[q] :: ms.drop (q + 1) := List.drop_eq_getElem_cons hql
          rw [hdrop, madeF_cons] at hR1
          obtain ⟨b, off, rfl, m0, m1, m2⟩ := (HM.out.below hb1).cellsAt hql
          obtain ⟨x, hx⟩ : ∃ x, x = ms[q] := ⟨_, rfl⟩
          rw [← hx] at hR1 m0 m1 m2
          obtain ⟨xl, xr, xi⟩ := x
          dsimp only at hR1 m0 m1 m2
          have bx := box_below wr (.cells #[.int .i64 xl, .int .i64 xr, .int .i64 xi] 39)
          have hy := heap_alloc_new wr (.cells #[.int .i64 xl, .int .i64 xr, .int .i64 xi] 39)
          have hK2 := hK1.below bx (Nat.le_refl _)
          have HB2 := Lib.hid (hb1.trans (bx.mono hb1.size))
          clear hK1 hb1 hdrop hx
          go_upto_region 11 with fail
          obtain ⟨W, hW1⟩ : ∃ W, W = wr.alloc (.cells #[.int .i64 xl, .int .i64 xr, .int .i64 xi] 39) := ⟨_, rfl⟩
          rw [← hW1] at hy hK2 HB2 ⊢
          obtain ⟨y, hyy⟩ : ∃ y, y = wr.heap.size := ⟨_, rfl⟩
          rw [← hyy] at hy ⊢
          clear bx hW1 hyy m0 m1 m2
          have y0 : W.cell? ⟨y, 0, none⟩ = some (.int .i64 xl) := by rw [cell_of_block hy]; rfl
          have y1 : W.cell? ⟨y, 1, none⟩ = some (.int .i64 xr) := by rw [cell_of_block hy]; rfl
          have y2 : W.cell? ⟨y, 2, none⟩ = some (.int .i64 xi) := by rw [cell_of_block hy]; rfl
          have c0 : W.cell? ⟨cb, 0, none⟩ = some (.slice (some ⟨g, 0, none⟩) N N) := by rw [cell_of_block hK2.at_]; rfl
          have hI1 := isMade_any cb g N M xl W hK2 (by omega)
          have hI2 := isMade_any cb g N M xr W hK2 (by omega)
          have HY := Lib.hid hy
          have HK2 := Lib.hid hK2
          have HR1 := Lib.hid hR1
          clear hy hK2 hR1
          by_cases hi0 : 0 ≤ xi
          · have d0 : decide (xi < 0) = false := decide_eq_false (by omega)
            by_cases hiN : xi < (N : Int)
            · have d1 : decide ((N : Int) ≤ xi) = false := decide_eq_false (by omega)
              obtain ⟨i, rfl⟩ : ∃ i : Nat, xi = (i : Int) := ⟨xi.toNat, by omega⟩
              have hiN' : i < N := by omega
              have ci := HK2.out.cell hiN'
              cases hMi : M i with
              | true =>
                rw [hMi] at ci
                have HRF : Hid (R = false) := Lib.hid (by rw [← HR1.out, if_neg]; rintro ⟨h, -⟩; simp [newId, hMi] at h)
                clear hI1 hI2 hMi
                go_wp2_with fail
                go_ret
                exact ⟨by rw [← HR.out, HRF.out]; rfl, HB2.out⟩
              | false =>
                rw [hMi] at ci
                cases hl : isMadeF N M xl with
                | false =>
                  have HRF : Hid (R = false) := Lib.hid (by rw [← HR1.out, if_neg]; rintro ⟨-, h, -⟩; rw [hl] at h; cases h)
                  rw [hl] at hI1
                  clear hI2 hMi hl
                  go_wp2_with fail
                  refine hI1.mono ?_
                  rintro e w' ⟨rfl, hw⟩
                  rw [hw]
                  clear hw w' hI1
                  go_wp2_with fail
                  go_ret
                  exact ⟨by rw [← HR.out, HRF.out]; rfl, HB2.out⟩
                | true =>
                  rw [hl] at hI1
                  cases hr : isMadeF N M xr with
                  | false =>
                    have HRF : Hid (R = false) := Lib.hid (by rw [← HR1.out, if_neg]; rintro ⟨-, -, h, -⟩; rw [hr] at h; cases h)
                    rw [hr] at hI2
                    clear hMi hl hr
                    go_wp2_with fail
                    refine hI1.mono ?_
                    rintro e w' ⟨rfl, hw⟩
                    rw [hw]
                    clear hw w' hI1
                    go_wp2_with fail
                    refine hI2.mono ?_
                    rintro e w' ⟨rfl, hw⟩
                    rw [hw]
                    clear hw w' hI2
                    go_wp2_with fail
                    go_ret
                    exact ⟨by rw [← HR.out, HRF.out]; rfl, HB2.out⟩
                  | true =>
                    rw [hr] at hI2
                    have HMI := Lib.hid hMi
                    have HLI := Lib.hid hl
                    have HRI := Lib.hid hr
                    clear hMi hl hr
                    go_wp2_with fail
                    refine hI1.mono ?_
                    rintro e w' ⟨rfl, hw⟩
                    rw [hw]
                    clear hw w' hI1
                    go_wp2_with fail
                    refine hI2.mono ?_
                    rintro e w' ⟨rfl, hw⟩
                    rw [hw]
                    clear hw w' hI2
                    obtain ⟨l, rfl⟩ : ∃ l : Nat, xl = (l : Int) := ⟨xl.toNat, by have h := HLI.out; unfold isMadeF at h; simp at h; omega⟩
                    obtain ⟨r, rfl⟩ : ∃ r : Nat, xr = (r : Int) := ⟨xr.toNat, by have h := HRI.out; unfold isMadeF at h; simp at h; omega⟩
                    have hlN : l < N := by have h := HLI.out; unfold isMadeF at h; simp at h; omega
                    have hrN : r < N := by have h := HRI.out; unfold isMadeF at h; simp at h; omega
                    have hRc : R = (((cutP (wordF ws i) (wordF ws l)).2 && ((cutP (wordF ws i) (wordF ws l)).1.toList == (wordF ws r).toList)) && madeF ws N (ms.drop (q + 1)) (fun j => decide (j = i) || M j)) := by
                      rw [← HR1.out]
                      have h1 : newId N M (i : Int) = true := by unfold newId; rw [Int.toNat_natCast, HMI.out]; simp; omega
                      have hcc : cutOk ws ⟨(l : Int), (r : Int), (i : Int)⟩ = ((cutP (wordF ws i) (wordF ws l)).2 && ((cutP (wordF ws i) (wordF ws l)).1.toList == (wordF ws r).toList)) := rfl
                      rw [← hcc]
                      by_cases hc : cutOk ws ⟨(l : Int), (r : Int), (i : Int)⟩ = true
                      · rw [if_pos ⟨h1, HLI.out, HRI.out, hc⟩, hc]; rfl
                      · rw [if_neg (fun h => hc h.2.2.2), Bool.eq_false_iff.2 hc]; rfl
                    have HWX : Hid (∀ (id : Nat) (wx : World), id < N → Below W.heap.size W wx → Calls Tryz.prog 14 #[.int .i64 (id : Nat), .pointer (some ⟨z, 0, none⟩)] wx fun e w' => ∃ v, e = .returned v ∧ Below wx.heap.size wx w' ∧ v = .string (wordF ws id)) := Lib.hid fun id wx hid hbx => by
                      have hbw := HB2.out.trans (hbx.mono HB2.out.size)
                      have hzc := (hbw.cell (p := ⟨z, 0, none⟩) HZ.out).trans HC.out
                      exact (wordOf_any z id aw cw ws wx (by have := HN.out; have := HLN.out; have := HLW.out; omega) (by have := HLN.out; have := HLW.out; omega) hzc (HW.out.below hbw)).mono fun e w' h => ⟨_, h.1, h.2, rfl⟩
                    have hsz := wordF_size ws HBG.out i
                    obtain ⟨wi, hwi⟩ : ∃ wi, wi = wordF ws i := ⟨_, rfl⟩
                    obtain ⟨wl, hwl⟩ : ∃ wl, wl = wordF ws l := ⟨_, rfl⟩
                    obtain ⟨wv, hwv⟩ : ∃ wv, wv = wordF ws r := ⟨_, rfl⟩
                    have HW0 := fun wx hbx => HWX.out i wx hiN' hbx
                    have HW1 := fun wx hbx => HWX.out l wx hlN hbx
                    have HW2 := Lib.hid (fun wx hbx => HWX.out r wx hrN hbx)
                    rw [← hwi] at hRc hsz HW0
                    rw [← hwl] at hRc HW1
                    rw [← hwv] at hRc HW2
                    have HCT := fun (wx : World) (_ : Below W.heap.size W wx) => (cut_any wi wl (by omega) wx).mono (fun e w' h => (⟨_, h.1, by rw [h.2]; exact Below.refl _ _, rfl⟩ : ∃ v, e = .returned v ∧ Below wx.heap.size wx w' ∧ v = .tuple #[.string (cutP wi wl).1, .bool (cutP wi wl).2]))
                    obtain ⟨p1, hp1⟩ : ∃ p, p = (cutP wi wl).1 := ⟨_, rfl⟩
                    obtain ⟨p2, hp2⟩ : ∃ p, p = (cutP wi wl).2 := ⟨_, rfl⟩
                    rw [← hp1, ← hp2] at hRc HCT
                    have hylt : y < W.heap.size := (Array.getElem?_eq_some_iff.1 HY.out).1
                    have HRC := Lib.hid hRc
                    clear hwi hwl hwv hp1 hp2 hRc y0 y1 y2 c0 ci
                    go_upto_region 13 with fail
                    refine wp_region_mono 14 [62, 63, 64, 65, 66, 67, 68, 69, 70, 61, 71, 72, 10, 11] [qR (.func (.func 14) #[] #[.pointer (some ⟨z, 0, none⟩)]),
                        qR (.pointer (some ⟨y, 2, none⟩)),
                        qR (.int .i64 (i : Nat)),
                        qR (.string wi),
                        qR (.func (.func 14) #[] #[.pointer (some ⟨z, 0, none⟩)]),
                        qR (.pointer (some ⟨y, 0, none⟩)),
                        qR (.int .i64 (l : Nat)),
                        qR (.string wl),
                        qR (.tuple #[.string p1, .bool p2]),
                        qR (.tuple #[.string p1, .bool p2]),
                        qR (.string p1),
                        qR (.bool p2),
                        qR (.string p1),
                        qR (.bool p2)] (by kernel_rfl) (by kernel_rfl) rfl rfl ?stab ?steps ?fin
                    case stab =>
                      intro φ hφ
                      simp only [List.mem_cons, List.not_mem_nil, or_false] at hφ
                      rcases hφ with rfl | rfl | rfl | rfl | rfl | rfl | rfl | rfl | rfl | rfl | rfl | rfl | rfl | rfl
                      · exact fun _ _ _ _ h => h
                      · exact fun _ _ _ _ h => h
                      · exact fun _ _ _ _ h => h
                      · exact fun _ _ _ _ h => h
                      · exact fun _ _ _ _ h => h
                      · exact fun _ _ _ _ h => h
                      · exact fun _ _ _ _ h => h
                      · exact fun _ _ _ _ h => h
                      · exact fun _ _ _ _ h => h
                      · exact fun _ _ _ _ h => h
                      · exact fun _ _ _ _ h => h
                      · exact fun _ _ _ _ h => h
                      · exact fun _ _ _ _ h => h
                      · exact fun _ _ _ _ h => h
                    case steps =>
                      have hBx : ∀ wx, Below W.drew.heap.size W.drew wx → Below W.heap.size W wx := fun wx hb => ⟨hb.os, hb.tape, hb.output, hb.size, hb.block⟩
                      refine ⟨?_, ?_, ?_, ?_, ?_, ?_, ?_, ?_, ?_, ?_, ?_, ?_, ?_, ?_, trivial⟩
                      · intro a' he wx hb hd
                        have e0 : a'.eval (.tmp 1) = .func (.func 14) #[] #[.pointer (some ⟨z, 0, none⟩)] := he.get rfl
                        exact mStep_read rfl (by simp [execOp, e0]) rfl
                      · intro a' he wx hb hd
                        have e0 : a'.eval (.tmp 9) = .pointer (some ⟨y, 0, none⟩) := he.get rfl
                        refine mStep_read rfl ?_ rfl
                        simp only [execOp, e0]
                        go_simp
                      · intro a' he wx hb hd
                        have e0 : a'.eval (.tmp 63) = .pointer (some ⟨y, 2, none⟩) := hd 1 rfl _ _ rfl rfl
                        have hyx := ((hBx wx hb).block y hylt).trans HY.out
                        have c0 := cell_of_block hyx (i := 0)
                        have c1 := cell_of_block hyx (i := 1)
                        have c2 := cell_of_block hyx (i := 2)
                        have c0 : wx.cell? ⟨y, 0, none⟩ = some (.int .i64 (l : Nat)) := c0
                        have c1 : wx.cell? ⟨y, 1, none⟩ = some (.int .i64 (r : Nat)) := c1
                        have c2 : wx.cell? ⟨y, 2, none⟩ = some (.int .i64 (i : Nat)) := c2
                        refine mStep_read rfl ?_ rfl
                        simp only [execOp, e0]
                        go_simp
                      · intro a' he wx hb hd
                        have e0 : a'.eval (.tmp 62) = .func (.func 14) #[] #[.pointer (some ⟨z, 0, none⟩)] := hd 0 rfl _ _ rfl rfl
                        have e1 : a'.eval (.tmp 64) = .int .i64 (i : Nat) := hd 2 rfl _ _ rfl rfl
                        exact mStep_call rfl (by simp [execOp, e0, e1, resolve]; rfl) (HW0 wx (hBx wx hb))
                      · intro a' he wx hb hd
                        have e0 : a'.eval (.tmp 1) = .func (.func 14) #[] #[.pointer (some ⟨z, 0, none⟩)] := he.get rfl
                        exact mStep_read rfl (by simp [execOp, e0]) rfl
                      · intro a' he wx hb hd
                        have e0 : a'.eval (.tmp 9) = .pointer (some ⟨y, 0, none⟩) := he.get rfl
                        refine mStep_read rfl ?_ rfl
                        simp only [execOp, e0]
                        go_simp
                      · intro a' he wx hb hd
                        have e0 : a'.eval (.tmp 67) = .pointer (some ⟨y, 0, none⟩) := hd 5 rfl _ _ rfl rfl
                        have hyx := ((hBx wx hb).block y hylt).trans HY.out
                        have c0 := cell_of_block hyx (i := 0)
                        have c1 := cell_of_block hyx (i := 1)
                        have c2 := cell_of_block hyx (i := 2)
                        have c0 : wx.cell? ⟨y, 0, none⟩ = some (.int .i64 (l : Nat)) := c0
                        have c1 : wx.cell? ⟨y, 1, none⟩ = some (.int .i64 (r : Nat)) := c1
                        have c2 : wx.cell? ⟨y, 2, none⟩ = some (.int .i64 (i : Nat)) := c2
                        refine mStep_read rfl ?_ rfl
                        simp only [execOp, e0]
                        go_simp
                      · intro a' he wx hb hd
                        have e0 : a'.eval (.tmp 66) = .func (.func 14) #[] #[.pointer (some ⟨z, 0, none⟩)] := hd 4 rfl _ _ rfl rfl
                        have e1 : a'.eval (.tmp 68) = .int .i64 (l : Nat) := hd 6 rfl _ _ rfl rfl
                        exact mStep_call rfl (by simp [execOp, e0, e1, resolve]; rfl) (HW1 wx (hBx wx hb))
                      · intro a' he wx hb hd
                        have e0 : a'.eval (.tmp 65) = .string wi := hd 3 rfl _ _ rfl rfl
                        have e1 : a'.eval (.tmp 69) = .string wl := hd 7 rfl _ _ rfl rfl
                        exact mStep_call rfl (by simp [execOp, e0, e1, resolve]; rfl) (HCT wx (hBx wx hb))
                      · intro a' he wx hb hd
                        have e0 : a'.eval (.tmp 70) = .tuple #[.string p1, .bool p2] := hd 8 rfl _ _ rfl rfl
                        exact mStep_read rfl (by simp [execOp, e0]) rfl
                      · intro a' he wx hb hd
                        have e0 : a'.eval (.tmp 61) = .tuple #[.string p1, .bool p2] := hd 9 rfl _ _ rfl rfl
                        refine mStep_read rfl ?_ rfl
                        first | (simp [execOp, e0]; done) | (simp [execOp, e0]; go_simp; done) | (simp [execOp, e0, resolve]; go_simp; done) | (simp only [execOp, e0]; go_simp)
                      · intro a' he wx hb hd
                        have e0 : a'.eval (.tmp 61) = .tuple #[.string p1, .bool p2] := hd 9 rfl _ _ rfl rfl
                        refine mStep_read rfl ?_ rfl
                        first | (simp [execOp, e0]; done) | (simp [execOp, e0]; go_simp; done) | (simp [execOp, e0, resolve]; go_simp; done) | (simp only [execOp, e0]; go_simp)
                      · intro a' he wx hb hd
                        have e0 : a'.eval (.tmp 71) = .string p1 := hd 10 rfl _ _ rfl rfl
                        exact mStep_read rfl (by simp [execOp, e0]) rfl
                      · intro a' he wx hb hd
                        have e0 : a'.eval (.tmp 72) = .bool p2 := hd 11 rfl _ _ rfl rfl
                        exact mStep_read rfl (by simp [execOp, e0]) rfl
                    case fin =>
                      rintro wx hb _ rfl _ rfl _ rfl _ rfl _ rfl _ rfl _ rfl _ rfl _ rfl _ rfl _ rfl _ rfl _ rfl _ rfl
                      simp only [finV, Act.put, List.setIfInBounds_toArray, List.set_cons_succ, List.set_cons_zero, List.drop_succ_cons, List.drop_zero]
                      have hbx : Below W.heap.size W wx := ⟨hb.os, hb.tape, hb.output, hb.size, hb.block⟩
                      have HBX := Lib.hid (HB2.out.trans (hbx.mono HB2.out.size))
                      have hyx := (hbx.block y hylt).trans HY.out
                      have y1 : wx.cell? ⟨y, 1, none⟩ = some (.int .i64 (r : Nat)) := by rw [cell_of_block hyx]; rfl
                      have hW2 := HW2.out wx hbx
                      have hKx := HK2.out.below hbx (Nat.le_refl _)
                      clear HW0 HW1 HCT hb hbx
                      cases p2 with
                      | false =>
                        have HRF : Hid (R = false) := Lib.hid (by rw [HRC.out]; simp)
                        clear y1 hW2 hyx hKx
                        go_wp2_with fail
                        go_ret
                        exact ⟨by rw [← HR.out, HRF.out]; rfl, HBX.out⟩
                      | true =>
                        have HYX := Lib.hid hyx
                        have HKX := Lib.hid hKx
                        clear hyx hKx
                        go_wp2_with fail
                        refine hW2.mono ?_
                        rintro e w5 ⟨v5, rfl, hb5, rfl⟩
                        have HB5 := Lib.hid (HBX.out.trans (hb5.mono HBX.out.size))
                        have hK5 := HKX.out.below hb5 (Nat.le_refl _)
                        have hy5 := (hb5.block y (Array.getElem?_eq_some_iff.1 HYX.out).1).trans HYX.out
                        have y2 : w5.cell? ⟨y, 2, none⟩ = some (.int .i64 (i : Nat)) := by rw [cell_of_block hy5]; rfl
                        have c0 : w5.cell? ⟨cb, 0, none⟩ = some (.slice (some ⟨g, 0, none⟩) N N) := by rw [cell_of_block hK5.at_]; rfl
                        have ci := hK5.cell hiN'
                        have fi : w5.frozen? ⟨g, i, none⟩ = false := by obtain ⟨cur, h1, _⟩ := hK5.row; exact unfrozen_of_block h1 i
                        have HK5 := Lib.hid (hK5.mark i hiN')
                        obtain ⟨old, hold⟩ : ∃ old, old = Value.bool (M i) := ⟨_, rfl⟩
                        rw [← hold] at ci
                        clear hW2 hb5 hK5 hy5 y1 hold
                        cases he : (p1.toList == wv.toList) with
                        | false =>
                          have HRF : Hid (R = false) := Lib.hid (by rw [HRC.out, he]; simp)
                          have dn : (p1.toList != wv.toList) = true := by rw [bne, he]; rfl
                          clear y2 c0 ci fi
                          go_wp2_with fail
                          go_ret
                          exact ⟨by rw [← HR.out, HRF.out]; rfl, HB5.out⟩
                        | true =>
                          have HRN : Hid (madeF ws N (ms.drop (q + 1)) (fun j => decide (j = i) || M j) = R) := Lib.hid (by rw [HRC.out, he]; simp)
                          have dn : (p1.toList != wv.toList) = false := by rw [bne, he]; rfl
                          have HB6 := Lib.hid (HB5.out.setCell (p := ⟨g, i, none⟩) (by show w.heap.size ≤ g; have := HG.out; omega) (.bool true))

                          go_wp2_with fail
                          refine ⟨?_, ?measure⟩
                          · (repeat apply Exists.intro)
                            refine ⟨?_, rfl⟩
                            exact ⟨q + 1, _, by omega, by go_num, HK5.out, HRN.out, HB6.out⟩
                          case measure =>
                            show n - (intOf (.int .i64 ((q : Int) + 1))).toNat < n - (intOf (.int .i64 (q : Int))).toNat
                            simp only [intOf]
                            omega
            · have d1 : decide ((N : Int) ≤ xi) = true := decide_eq_true (by omega)
              have HRF : Hid (R = false) := Lib.hid (by rw [← HR1.out, if_neg]; rintro ⟨h, -⟩; simp [newId] at h; omega)
              clear hI1 hI2
              go_wp2_with fail
              go_ret
              exact ⟨by rw [← HR.out, HRF.out]; rfl, HB2.out⟩
          · have d0 : decide (xi < 0) = true := decide_eq_true (by omega)
            have HRF : Hid (R = false) := Lib.hid (by rw [← HR1.out, if_neg]; rintro ⟨h, -⟩; simp [newId] at h; omega)
            clear hI1 hI2
            go_wp2_with fail
            go_ret
            exact ⟨by rw [← HR.out, HRF.out]; rfl, HB2.out⟩
        · have hqn : ms.drop q = [] := List.drop_eq_nil_of_le (by have := HLN.out; omega)
          rw [hqn] at hR1
          have HRT : Hid (R = true) := Lib.hid hR1.symm
          have HB2 := Lib.hid hb1
          clear hK1 hR1 hb1 hqn
          go_wp2_with fail
          go_ret
          exact ⟨by rw [← HR.out, HRT.out]; rfl, HB2.out⟩
end Go.Proofs.YtonbfcpbgkpbaaaGreatDoor
end
section
/- utf.front: what its paths need. -/
namespace Go.Proofs.YtonbfcpbgkpbaaaGreatDoor
open Go.RowKit
theorem not_empty (s : ByteArray) (h : 0 < s.size) : s.toList.isEmpty = false := by
  rw [ByteArray.toList_eq]
  cases hl : s.data.toList with
  | nil =>
    have : s.data.toList.length = s.size := by simp
    rw [hl] at this
    simp at this
    omega
  | cons a l => rfl
theorem stands_lit (s : ByteArray) (i lo hi : Nat) (i' lo' hi' : Int) (e1 : (i : Int) = i') (e2 : (lo : Int) = lo') (e3 : (hi : Int) = hi') (w : World) :
    Calls Tryz.prog 94 #[.string s, .int .i64 i', .int .u8 lo', .int .u8 hi'] w fun e w' => e = .returned (.bool (stands (tl s) i lo hi)) ∧ w' = w := by
  subst e1 e2 e3; exact stands_any s i lo hi w
theorem bt_zero (s : ByteArray) (h : 0 < s.size) : bt (tl s) 0 = (s[0]).toNat := by
  unfold bt
  rw [List.getD_eq_getElem?_getD, List.getElem?_eq_getElem (by simpa using h)]
  rfl
end Go.Proofs.YtonbfcpbgkpbaaaGreatDoor
end
section
/- utf.front: its contract, label by label. -/
namespace Go.Proofs.YtonbfcpbgkpbaaaGreatDoor
open Go.RowKit
/-- The code of front's scope. -/
def scopeIn (f : Func) : Code := match f.body with
  | some (.seq _ (.scope c)) => c
  | _ => .skip
/-- What front's run ends with. -/
abbrev FQ (w : World) (r : Nat × Bool) : Exit → Act → World → Prop := bodyPost Tryz.prog Tryz.f72 fun e w' => e = .returned (.tuple #[.int .i64 (r.1 : Nat), .bool r.2]) ∧ w' = w
abbrev FOn (w : World) (r : Nat × Bool) (l : Nat) (a : Act) : Prop := On Tryz.prog (scopeIn Tryz.f72) (FQ w r) l a w
theorem at_whole (s : ByteArray) (w : World) (k lo hi : Nat) (n l h : Int) (hn : n = (k : Nat)) (hl : l = (lo : Nat)) (hh : h = (hi : Nat)) (_hk : k ≤ 4) (t1 t2 t3 t7 t8 t9 t10 t11 t12 t13 t14 t15 t16 t17 t18 t19 t20 t21 t22 t23 t24 t25 t26 t27 t28 t29 t30 t31 t32 t33 t34 t35 t36 t37 t38 t39 t40 t41 t42 t43 t44 t45 t46 t47 t48 t49 t50 t51 t52 t53 t54 t55 t56 t57 t58 t59 t60 t61 : Value) :
    FOn w ((k, true)) 1 ⟨#[.string s, t1, t2, t3, .int .i64 n, .int .u8 l, .int .u8 h, t7, t8, t9, t10, t11, t12, t13, t14, t15, t16, t17, t18, t19, t20, t21, t22, t23, t24, t25, t26, t27, t28, t29, t30, t31, t32, t33, t34, t35, t36, t37, t38, t39, t40, t41, t42, t43, t44, t45, t46, t47, t48, t49, t50, t51, t52, t53, t54, t55, t56, t57, t58, t59, t60, t61], []⟩ := by
  subst hn hl hh
  refine on_label rfl ?_
  go_wp2_with fail
  rw [viaL_ret]
  go_ret2
  exact ⟨rfl, rfl⟩
theorem at_nothing (s : ByteArray) (w : World) (k lo hi : Nat) (n l h : Int) (hn : n = (k : Nat)) (hl : l = (lo : Nat)) (hh : h = (hi : Nat)) (_hk : k ≤ 4) (t1 t2 t3 t7 t8 t9 t10 t11 t12 t13 t14 t15 t16 t17 t18 t19 t20 t21 t22 t23 t24 t25 t26 t27 t28 t29 t30 t31 t32 t33 t34 t35 t36 t37 t38 t39 t40 t41 t42 t43 t44 t45 t46 t47 t48 t49 t50 t51 t52 t53 t54 t55 t56 t57 t58 t59 t60 t61 : Value) :
    FOn w ((0, false)) 0 ⟨#[.string s, t1, t2, t3, .int .i64 n, .int .u8 l, .int .u8 h, t7, t8, t9, t10, t11, t12, t13, t14, t15, t16, t17, t18, t19, t20, t21, t22, t23, t24, t25, t26, t27, t28, t29, t30, t31, t32, t33, t34, t35, t36, t37, t38, t39, t40, t41, t42, t43, t44, t45, t46, t47, t48, t49, t50, t51, t52, t53, t54, t55, t56, t57, t58, t59, t60, t61], []⟩ := by
  subst hn hl hh
  refine on_label rfl ?_
  go_wp2_with fail
  rw [viaL_ret]
  go_ret2
  exact ⟨rfl, rfl⟩
theorem at_part (s : ByteArray) (w : World) (k lo hi : Nat) (n l h : Int) (hn : n = (k : Nat)) (hl : l = (lo : Nat)) (hh : h = (hi : Nat)) (_hk : k ≤ 4) (t1 t2 t3 t7 t8 t9 t10 t11 t12 t13 t14 t15 t16 t17 t18 t19 t20 t21 t22 t23 t24 t25 t26 t27 t28 t29 t30 t31 t32 t33 t34 t35 t36 t37 t38 t39 t40 t41 t42 t43 t44 t45 t46 t47 t48 t49 t50 t51 t52 t53 t54 t55 t56 t57 t58 t59 t60 t61 : Value) :
    FOn w ((k, false)) 5 ⟨#[.string s, t1, t2, t3, .int .i64 n, .int .u8 l, .int .u8 h, t7, t8, t9, t10, t11, t12, t13, t14, t15, t16, t17, t18, t19, t20, t21, t22, t23, t24, t25, t26, t27, t28, t29, t30, t31, t32, t33, t34, t35, t36, t37, t38, t39, t40, t41, t42, t43, t44, t45, t46, t47, t48, t49, t50, t51, t52, t53, t54, t55, t56, t57, t58, t59, t60, t61], []⟩ := by
  subst hn hl hh
  refine on_label rfl ?_
  go_wp2_with fail
  rw [viaL_ret]
  go_ret2
  exact ⟨rfl, rfl⟩
theorem at_one (s : ByteArray) (w : World) (k lo hi : Nat) (n l h : Int) (hn : n = (k : Nat)) (hl : l = (lo : Nat)) (hh : h = (hi : Nat)) (hk : k ≤ 3) (t1 t2 t3 t7 t8 t9 t10 t11 t12 t13 t14 t15 t16 t17 t18 t19 t20 t21 t22 t23 t24 t25 t26 t27 t28 t29 t30 t31 t32 t33 t34 t35 t36 t37 t38 t39 t40 t41 t42 t43 t44 t45 t46 t47 t48 t49 t50 t51 t52 t53 t54 t55 t56 t57 t58 t59 t60 t61 : Value) :
    FOn w (goOne (tl s) k lo hi) 2 ⟨#[.string s, t1, t2, t3, .int .i64 n, .int .u8 l, .int .u8 h, t7, t8, t9, t10, t11, t12, t13, t14, t15, t16, t17, t18, t19, t20, t21, t22, t23, t24, t25, t26, t27, t28, t29, t30, t31, t32, t33, t34, t35, t36, t37, t38, t39, t40, t41, t42, t43, t44, t45, t46, t47, t48, t49, t50, t51, t52, t53, t54, t55, t56, t57, t58, t59, t60, t61], []⟩ := by
  subst hn hl hh
  unfold goOne
  by_cases hst : stands (tl s) k lo hi = true
  · rw [if_pos hst]
    refine on_label rfl ?_
    go_wp2_with (first | (apply wp_goto; change On _ _ _ _ _ _; refine at_whole s _ (k + 1) lo hi _ _ _ (by simp) rfl rfl (by omega) _ _ _ _ _ _ _ _ _ _ _ _ _ _ _ _ _ _ _ _ _ _ _ _ _ _ _ _ _ _ _ _ _ _ _ _ _ _ _ _ _ _ _ _ _ _ _ _ _ _ _ _ _ _ _ _ _ _) | (apply wp_label) | (go_at_call 94; refine (stands_lit s k lo hi _ _ _ rfl rfl rfl _).mono ?_; rintro e w1 ⟨rfl, rfl⟩))
  · rw [if_neg hst]
    have hst' : stands (tl s) k lo hi = false := by simpa using hst
    clear hst
    refine on_label rfl ?_
    go_wp2_with (first | (apply wp_goto; change On _ _ _ _ _ _; refine at_part s _ k lo hi _ _ _ rfl rfl rfl (by omega) _ _ _ _ _ _ _ _ _ _ _ _ _ _ _ _ _ _ _ _ _ _ _ _ _ _ _ _ _ _ _ _ _ _ _ _ _ _ _ _ _ _ _ _ _ _ _ _ _ _ _ _ _ _ _ _ _ _) | (apply wp_label) | (go_at_call 94; refine (stands_lit s k lo hi _ _ _ rfl rfl rfl _).mono ?_; rintro e w1 ⟨rfl, rfl⟩))
    rw [viaL_ret]
    go_ret2
    exact ⟨rfl, rfl⟩
theorem at_two (s : ByteArray) (w : World) (k lo hi : Nat) (n l h : Int) (hn : n = (k : Nat)) (hl : l = (lo : Nat)) (hh : h = (hi : Nat)) (hk : k ≤ 2) (t1 t2 t3 t7 t8 t9 t10 t11 t12 t13 t14 t15 t16 t17 t18 t19 t20 t21 t22 t23 t24 t25 t26 t27 t28 t29 t30 t31 t32 t33 t34 t35 t36 t37 t38 t39 t40 t41 t42 t43 t44 t45 t46 t47 t48 t49 t50 t51 t52 t53 t54 t55 t56 t57 t58 t59 t60 t61 : Value) :
    FOn w (goTwo (tl s) k lo hi) 3 ⟨#[.string s, t1, t2, t3, .int .i64 n, .int .u8 l, .int .u8 h, t7, t8, t9, t10, t11, t12, t13, t14, t15, t16, t17, t18, t19, t20, t21, t22, t23, t24, t25, t26, t27, t28, t29, t30, t31, t32, t33, t34, t35, t36, t37, t38, t39, t40, t41, t42, t43, t44, t45, t46, t47, t48, t49, t50, t51, t52, t53, t54, t55, t56, t57, t58, t59, t60, t61], []⟩ := by
  subst hn hl hh
  unfold goTwo
  by_cases hst : stands (tl s) k lo hi = true
  · rw [if_pos hst]
    refine on_label rfl ?_
    go_wp2_with (first | (apply wp_goto; change On _ _ _ _ _ _; refine at_one s _ (k + 1) 128 191 _ _ _ (by simp) rfl rfl (by omega) _ _ _ _ _ _ _ _ _ _ _ _ _ _ _ _ _ _ _ _ _ _ _ _ _ _ _ _ _ _ _ _ _ _ _ _ _ _ _ _ _ _ _ _ _ _ _ _ _ _ _ _ _ _ _ _ _ _) | (apply wp_label) | (go_at_call 94; refine (stands_lit s k lo hi _ _ _ rfl rfl rfl _).mono ?_; rintro e w1 ⟨rfl, rfl⟩))
  · rw [if_neg hst]
    have hst' : stands (tl s) k lo hi = false := by simpa using hst
    clear hst
    refine on_label rfl ?_
    go_wp2_with (first | (apply wp_goto; change On _ _ _ _ _ _; refine at_part s _ k lo hi _ _ _ rfl rfl rfl (by omega) _ _ _ _ _ _ _ _ _ _ _ _ _ _ _ _ _ _ _ _ _ _ _ _ _ _ _ _ _ _ _ _ _ _ _ _ _ _ _ _ _ _ _ _ _ _ _ _ _ _ _ _ _ _ _ _ _ _) | (apply wp_label) | (go_at_call 94; refine (stands_lit s k lo hi _ _ _ rfl rfl rfl _).mono ?_; rintro e w1 ⟨rfl, rfl⟩))
theorem at_three (s : ByteArray) (w : World) (k lo hi : Nat) (n l h : Int) (hn : n = (k : Nat)) (hl : l = (lo : Nat)) (hh : h = (hi : Nat)) (hk : k ≤ 1) (t1 t2 t3 t7 t8 t9 t10 t11 t12 t13 t14 t15 t16 t17 t18 t19 t20 t21 t22 t23 t24 t25 t26 t27 t28 t29 t30 t31 t32 t33 t34 t35 t36 t37 t38 t39 t40 t41 t42 t43 t44 t45 t46 t47 t48 t49 t50 t51 t52 t53 t54 t55 t56 t57 t58 t59 t60 t61 : Value) :
    FOn w (goThree (tl s) k lo hi) 4 ⟨#[.string s, t1, t2, t3, .int .i64 n, .int .u8 l, .int .u8 h, t7, t8, t9, t10, t11, t12, t13, t14, t15, t16, t17, t18, t19, t20, t21, t22, t23, t24, t25, t26, t27, t28, t29, t30, t31, t32, t33, t34, t35, t36, t37, t38, t39, t40, t41, t42, t43, t44, t45, t46, t47, t48, t49, t50, t51, t52, t53, t54, t55, t56, t57, t58, t59, t60, t61], []⟩ := by
  subst hn hl hh
  unfold goThree
  by_cases hst : stands (tl s) k lo hi = true
  · rw [if_pos hst]
    refine on_label rfl ?_
    go_wp2_with (first | (apply wp_goto; change On _ _ _ _ _ _; refine at_two s _ (k + 1) 128 191 _ _ _ (by simp) rfl rfl (by omega) _ _ _ _ _ _ _ _ _ _ _ _ _ _ _ _ _ _ _ _ _ _ _ _ _ _ _ _ _ _ _ _ _ _ _ _ _ _ _ _ _ _ _ _ _ _ _ _ _ _ _ _ _ _ _ _ _ _) | (apply wp_label) | (go_at_call 94; refine (stands_lit s k lo hi _ _ _ rfl rfl rfl _).mono ?_; rintro e w1 ⟨rfl, rfl⟩))
  · rw [if_neg hst]
    have hst' : stands (tl s) k lo hi = false := by simpa using hst
    clear hst
    refine on_label rfl ?_
    go_wp2_with (first | (apply wp_goto; change On _ _ _ _ _ _; refine at_part s _ k lo hi _ _ _ rfl rfl rfl (by omega) _ _ _ _ _ _ _ _ _ _ _ _ _ _ _ _ _ _ _ _ _ _ _ _ _ _ _ _ _ _ _ _ _ _ _ _ _ _ _ _ _ _ _ _ _ _ _ _ _ _ _ _ _ _ _ _ _ _) | (apply wp_label) | (go_at_call 94; refine (stands_lit s k lo hi _ _ _ rfl rfl rfl _).mono ?_; rintro e w1 ⟨rfl, rfl⟩))
abbrev FC (s : ByteArray) (w : World) (r : Nat × Bool) : Prop := Calls Tryz.prog 72 #[.string s] w fun e w' => e = .returned (.tuple #[.int .i64 (r.1 : Nat), .bool r.2]) ∧ w' = w
theorem front_A (s : ByteArray) (w : World) (_hs : s.size ≤ 9223372036854775807) (h0 : 0 < s.size) (h : s[0].toNat ≤ 127) : FC s w ((1, true)) := by
  have hc : (s[0]).toNat < 256 := UInt8.toNat_lt _
  have hne := not_empty s h0
  go_enter Tryz.func72, Tryz.ntmps72
  go_wp2_with fail
  apply on_enter
  change Code.wp Tryz.prog _ (viaL (On Tryz.prog (scopeIn Tryz.f72) _) _) _ _
  go_wp2_with (first | (apply wp_goto; change On _ _ _ _ _ _; refine at_whole s _ 1 128 191 _ _ _ rfl rfl rfl (by omega) _ _ _ _ _ _ _ _ _ _ _ _ _ _ _ _ _ _ _ _ _ _ _ _ _ _ _ _ _ _ _ _ _ _ _ _ _ _ _ _ _ _ _ _ _ _ _ _ _ _ _ _ _ _ _ _ _ _) | (apply wp_label))
theorem front_B (s : ByteArray) (w : World) (_hs : s.size ≤ 9223372036854775807) (h0 : 0 < s.size) (h : 127 < s[0].toNat ∧ s[0].toNat ≤ 193) : FC s w ((0, false)) := by
  have hc : (s[0]).toNat < 256 := UInt8.toNat_lt _
  have hne := not_empty s h0
  go_enter Tryz.func72, Tryz.ntmps72
  go_wp2_with fail
  apply on_enter
  change Code.wp Tryz.prog _ (viaL (On Tryz.prog (scopeIn Tryz.f72) _) _) _ _
  go_wp2_with (first | (apply wp_goto; change On _ _ _ _ _ _; refine at_nothing s _ 1 128 191 _ _ _ rfl rfl rfl (by omega) _ _ _ _ _ _ _ _ _ _ _ _ _ _ _ _ _ _ _ _ _ _ _ _ _ _ _ _ _ _ _ _ _ _ _ _ _ _ _ _ _ _ _ _ _ _ _ _ _ _ _ _ _ _ _ _ _ _) | (apply wp_label))
theorem front_C (s : ByteArray) (w : World) (_hs : s.size ≤ 9223372036854775807) (h0 : 0 < s.size) (h : 193 < s[0].toNat ∧ s[0].toNat ≤ 223) : FC s w (goOne (tl s) 1 128 191) := by
  have hc : (s[0]).toNat < 256 := UInt8.toNat_lt _
  have hne := not_empty s h0
  go_enter Tryz.func72, Tryz.ntmps72
  go_wp2_with fail
  apply on_enter
  change Code.wp Tryz.prog _ (viaL (On Tryz.prog (scopeIn Tryz.f72) _) _) _ _
  go_wp2_with (first | (apply wp_goto; change On _ _ _ _ _ _; refine at_one s _ 1 128 191 _ _ _ rfl rfl rfl (by omega) _ _ _ _ _ _ _ _ _ _ _ _ _ _ _ _ _ _ _ _ _ _ _ _ _ _ _ _ _ _ _ _ _ _ _ _ _ _ _ _ _ _ _ _ _ _ _ _ _ _ _ _ _ _ _ _ _ _) | (apply wp_label))
theorem front_D (s : ByteArray) (w : World) (_hs : s.size ≤ 9223372036854775807) (h0 : 0 < s.size) (h : 223 < s[0].toNat ∧ s[0].toNat < 225) : FC s w (goTwo (tl s) 1 160 191) := by
  have hc : (s[0]).toNat < 256 := UInt8.toNat_lt _
  have hne := not_empty s h0
  go_enter Tryz.func72, Tryz.ntmps72
  go_wp2_with fail
  apply on_enter
  change Code.wp Tryz.prog _ (viaL (On Tryz.prog (scopeIn Tryz.f72) _) _) _ _
  go_wp2_with (first | (apply wp_goto; change On _ _ _ _ _ _; refine at_two s _ 1 160 191 _ _ _ rfl rfl rfl (by omega) _ _ _ _ _ _ _ _ _ _ _ _ _ _ _ _ _ _ _ _ _ _ _ _ _ _ _ _ _ _ _ _ _ _ _ _ _ _ _ _ _ _ _ _ _ _ _ _ _ _ _ _ _ _ _ _ _ _) | (apply wp_label))
theorem front_E (s : ByteArray) (w : World) (_hs : s.size ≤ 9223372036854775807) (h0 : 0 < s.size) (h : 236 < s[0].toNat ∧ s[0].toNat < 238) : FC s w (goTwo (tl s) 1 128 159) := by
  have hc : (s[0]).toNat < 256 := UInt8.toNat_lt _
  have hne := not_empty s h0
  go_enter Tryz.func72, Tryz.ntmps72
  go_wp2_with fail
  apply on_enter
  change Code.wp Tryz.prog _ (viaL (On Tryz.prog (scopeIn Tryz.f72) _) _) _ _
  go_wp2_with (first | (apply wp_goto; change On _ _ _ _ _ _; refine at_two s _ 1 128 159 _ _ _ rfl rfl rfl (by omega) _ _ _ _ _ _ _ _ _ _ _ _ _ _ _ _ _ _ _ _ _ _ _ _ _ _ _ _ _ _ _ _ _ _ _ _ _ _ _ _ _ _ _ _ _ _ _ _ _ _ _ _ _ _ _ _ _ _) | (apply wp_label))
theorem front_F (s : ByteArray) (w : World) (_hs : s.size ≤ 9223372036854775807) (h0 : 0 < s.size) (h : 224 < s[0].toNat ∧ s[0].toNat < 237 ∨ 237 < s[0].toNat ∧ s[0].toNat < 240) : FC s w (goTwo (tl s) 1 128 191) := by
  have hc : (s[0]).toNat < 256 := UInt8.toNat_lt _
  have hne := not_empty s h0
  go_enter Tryz.func72, Tryz.ntmps72
  go_wp2_with fail
  apply on_enter
  change Code.wp Tryz.prog _ (viaL (On Tryz.prog (scopeIn Tryz.f72) _) _) _ _
  go_wp2_with (first | (apply wp_goto; change On _ _ _ _ _ _; refine at_two s _ 1 128 191 _ _ _ rfl rfl rfl (by omega) _ _ _ _ _ _ _ _ _ _ _ _ _ _ _ _ _ _ _ _ _ _ _ _ _ _ _ _ _ _ _ _ _ _ _ _ _ _ _ _ _ _ _ _ _ _ _ _ _ _ _ _ _ _ _ _ _ _) | (apply wp_label))
theorem front_G (s : ByteArray) (w : World) (_hs : s.size ≤ 9223372036854775807) (h0 : 0 < s.size) (h : 239 < s[0].toNat ∧ s[0].toNat < 241) : FC s w (goThree (tl s) 1 144 191) := by
  have hc : (s[0]).toNat < 256 := UInt8.toNat_lt _
  have hne := not_empty s h0
  go_enter Tryz.func72, Tryz.ntmps72
  go_wp2_with fail
  apply on_enter
  change Code.wp Tryz.prog _ (viaL (On Tryz.prog (scopeIn Tryz.f72) _) _) _ _
  go_wp2_with (first | (apply wp_goto; change On _ _ _ _ _ _; refine at_three s _ 1 144 191 _ _ _ rfl rfl rfl (by omega) _ _ _ _ _ _ _ _ _ _ _ _ _ _ _ _ _ _ _ _ _ _ _ _ _ _ _ _ _ _ _ _ _ _ _ _ _ _ _ _ _ _ _ _ _ _ _ _ _ _ _ _ _ _ _ _ _ _) | (apply wp_label))
theorem front_H (s : ByteArray) (w : World) (_hs : s.size ≤ 9223372036854775807) (h0 : 0 < s.size) (h : 240 < s[0].toNat ∧ s[0].toNat < 244) : FC s w (goThree (tl s) 1 128 191) := by
  have hc : (s[0]).toNat < 256 := UInt8.toNat_lt _
  have hne := not_empty s h0
  go_enter Tryz.func72, Tryz.ntmps72
  go_wp2_with fail
  apply on_enter
  change Code.wp Tryz.prog _ (viaL (On Tryz.prog (scopeIn Tryz.f72) _) _) _ _
  go_wp2_with (first | (apply wp_goto; change On _ _ _ _ _ _; refine at_three s _ 1 128 191 _ _ _ rfl rfl rfl (by omega) _ _ _ _ _ _ _ _ _ _ _ _ _ _ _ _ _ _ _ _ _ _ _ _ _ _ _ _ _ _ _ _ _ _ _ _ _ _ _ _ _ _ _ _ _ _ _ _ _ _ _ _ _ _ _ _ _ _) | (apply wp_label))
theorem front_I (s : ByteArray) (w : World) (_hs : s.size ≤ 9223372036854775807) (h0 : 0 < s.size) (h : 243 < s[0].toNat ∧ s[0].toNat < 245) : FC s w (goThree (tl s) 1 128 143) := by
  have hc : (s[0]).toNat < 256 := UInt8.toNat_lt _
  have hne := not_empty s h0
  go_enter Tryz.func72, Tryz.ntmps72
  go_wp2_with fail
  apply on_enter
  change Code.wp Tryz.prog _ (viaL (On Tryz.prog (scopeIn Tryz.f72) _) _) _ _
  go_wp2_with (first | (apply wp_goto; change On _ _ _ _ _ _; refine at_three s _ 1 128 143 _ _ _ rfl rfl rfl (by omega) _ _ _ _ _ _ _ _ _ _ _ _ _ _ _ _ _ _ _ _ _ _ _ _ _ _ _ _ _ _ _ _ _ _ _ _ _ _ _ _ _ _ _ _ _ _ _ _ _ _ _ _ _ _ _ _ _ _) | (apply wp_label))
theorem front_J (s : ByteArray) (w : World) (_hs : s.size ≤ 9223372036854775807) (h0 : 0 < s.size) (h : 244 < s[0].toNat) : FC s w ((0, false)) := by
  have hc : (s[0]).toNat < 256 := UInt8.toNat_lt _
  have hne := not_empty s h0
  go_enter Tryz.func72, Tryz.ntmps72
  go_wp2_with fail
  apply on_enter
  change Code.wp Tryz.prog _ (viaL (On Tryz.prog (scopeIn Tryz.f72) _) _) _ _
  go_wp2_with (first | (apply wp_goto; change On _ _ _ _ _ _; refine at_nothing s _ 1 128 191 _ _ _ rfl rfl rfl (by omega) _ _ _ _ _ _ _ _ _ _ _ _ _ _ _ _ _ _ _ _ _ _ _ _ _ _ _ _ _ _ _ _ _ _ _ _ _ _ _ _ _ _ _ _ _ _ _ _ _ _ _ _ _ _ _ _ _ _) | (apply wp_label))
  rw [viaL_ret]
  go_ret2
  exact ⟨rfl, rfl⟩
theorem is_empty (s : ByteArray) (h : s.size = 0) : s.toList.isEmpty = true := by
  rw [ByteArray.toList_eq]
  have : s.data.toList.length = 0 := by simpa using h
  rw [List.length_eq_zero_iff.1 this]
  rfl
theorem front_Z (s : ByteArray) (w : World) (h0 : s.size = 0) : FC s w (0, false) := by
  have hne := is_empty s h0
  go_enter Tryz.func72, Tryz.ntmps72
  go_wp2_with fail
  apply on_enter
  change Code.wp Tryz.prog _ (viaL (On Tryz.prog (scopeIn Tryz.f72) _) _) _ _
  go_wp2_with (first | (apply wp_goto; change On _ _ _ _ _ _; refine at_nothing s _ 1 128 191 _ _ _ rfl rfl rfl (by omega) _ _ _ _ _ _ _ _ _ _ _ _ _ _ _ _ _ _ _ _ _ _ _ _ _ _ _ _ _ _ _ _ _ _ _ _ _ _ _ _ _ _ _ _ _ _ _ _ _ _ _ _ _ _ _ _ _ _) | (apply wp_label))
theorem front_any (s : ByteArray) (w : World) (hs : s.size ≤ 9223372036854775807) : FC s w (front (tl s)) := by
  unfold front
  rw [tl_len]
  by_cases h0 : s.size = 0
  · rw [if_pos h0]
    exact front_Z s w h0
  · rw [if_neg h0]
    have h0' : 0 < s.size := by omega
    rw [bt_zero s h0']
    by_cases hA : s[0].toNat ≤ 127
    · rw [if_pos hA]; exact front_A s w hs h0' hA
    · rw [if_neg hA]
      by_cases hB : s[0].toNat ≤ 193
      · rw [if_pos hB]; exact front_B s w hs h0' ⟨by omega, hB⟩
      · rw [if_neg hB]
        by_cases hC : s[0].toNat ≤ 223
        · rw [if_pos hC]; exact front_C s w hs h0' ⟨by omega, hC⟩
        · rw [if_neg hC]
          by_cases hD : s[0].toNat = 224
          · rw [if_pos hD]; exact front_D s w hs h0' (by omega)
          · rw [if_neg hD]
            by_cases hE : s[0].toNat = 237
            · rw [if_pos hE]; exact front_E s w hs h0' (by omega)
            · rw [if_neg hE]
              by_cases hF : s[0].toNat ≤ 239
              · rw [if_pos hF]; exact front_F s w hs h0' (by omega)
              · rw [if_neg hF]
                by_cases hG : s[0].toNat = 240
                · rw [if_pos hG]; exact front_G s w hs h0' (by omega)
                · rw [if_neg hG]
                  by_cases hH : s[0].toNat ≤ 243
                  · rw [if_pos hH]; exact front_H s w hs h0' (by omega)
                  · rw [if_neg hH]
                    by_cases hI : s[0].toNat = 244
                    · rw [if_pos hI]; exact front_I s w hs h0' (by omega)
                    · rw [if_neg hI]; exact front_J s w hs h0' (by omega)
end Go.Proofs.YtonbfcpbgkpbaaaGreatDoor
end
section
/- Items: what they are; utf.badByte, utf.sequence: their contracts. -/
namespace Go.Proofs.YtonbfcpbgkpbaaaGreatDoor
open Go.RowKit
/-- An item. -/
structure It where
  frm : Nat
  bytes : Nat
  rune : Nat
  bad : Bool
/-- Its value. -/
def itv (x : It) : Value := .agg #[.int .i64 (x.frm : Nat), .int .i64 (x.bytes : Nat), .int .i32 (x.rune : Nat), .bool x.bad]
theorem badByte_any (k : Nat) (w : World) : Calls Tryz.prog 71 #[.int .i64 (k : Nat)] w fun e w' => e = .returned (itv ⟨k, 1, 65533, true⟩) ∧ Below w.heap.size w w' := by
  go_enter Tryz.func71, Tryz.ntmps71
  go_wp2_with fail
  exact bodyPost_ret (v := itv ⟨k, 1, 65533, true⟩) (by simp [results, Tryz.results71, go_sem, itv]) rfl ⟨rfl, (Below.refl _ _).alloc (Nat.le_refl _) _⟩
theorem runesFrom_size (s : ByteArray) (b : Nat) : ∀ (i : Nat) (acc : Array Value), acc.size ≤ (Conv.runesFrom s b i acc).size := by
  induction b with
  | zero => intro i acc; simp [Conv.runesFrom]
  | succ b ih =>
    intro i acc
    unfold Conv.runesFrom
    split
    · exact Nat.le_trans (by simp) (ih _ _)
    · exact Nat.le_refl _
theorem runesFrom_get (s : ByteArray) (b : Nat) : ∀ (i : Nat) (acc : Array Value) (j : Nat), j < acc.size → (Conv.runesFrom s b i acc)[j]? = acc[j]? := by
  induction b with
  | zero => intro i acc j _; simp [Conv.runesFrom]
  | succ b ih =>
    intro i acc j hj
    unfold Conv.runesFrom
    split
    · rw [ih _ _ j (by simp; omega)]
      simp [Array.getElem?_push, show j ≠ acc.size by omega]
    · rfl
theorem runesFrom_first (s : ByteArray) (h : 0 < s.size) : (Conv.runesFrom s s.size 0 #[])[0]? = some (.int .i32 ((Utf8.decode s 0).1 : Nat)) := by
  obtain ⟨n, hn⟩ : ∃ n, s.size = n + 1 := ⟨s.size - 1, by omega⟩
  rw [hn]
  unfold Conv.runesFrom
  rw [if_pos (by omega)]
  rw [runesFrom_get _ _ _ _ _ (by simp)]
  rfl
theorem runesFrom_most (s : ByteArray) (b : Nat) : ∀ (i : Nat) (acc : Array Value), (Conv.runesFrom s b i acc).size ≤ acc.size + b := by
  induction b with
  | zero => intro i acc; simp [Conv.runesFrom]
  | succ b ih =>
    intro i acc
    unfold Conv.runesFrom
    split
    · have := ih (i + (Utf8.decode s i).2) (acc.push (.int .i32 (Int.ofNat (Utf8.decode s i).1)))
      simp at this ⊢
      omega
    · omega
theorem sequence_any (s : ByteArray) (k : Nat) (h0 : 0 < s.size) (h4 : s.size ≤ 4) (w : World) :
    Calls Tryz.prog 73 #[.string s, .int .i64 (k : Nat)] w fun e w' => e = .returned (itv ⟨k, s.size, (Utf8.decode s 0).1, false⟩) ∧ Below w.heap.size w w' := by
  have hm := runesFrom_most s s.size 0 #[]
  simp only [Array.size_empty] at hm
  have hcv := fun wx : World => run_runes_of_string (P := Tryz.prog) wx 9 141 21 s Tryz.underlying9 Tryz.underlying141 Tryz.underlying21 (by omega)
  have h1 := runesFrom_first s h0
  have h2 : 0 < (Conv.runesFrom s s.size 0 #[]).size := by
    rcases Nat.eq_zero_or_pos (Conv.runesFrom s s.size 0 #[]).size with h | h
    · rw [Array.getElem?_eq_none (by omega)] at h1; cases h1
    · exact h
  obtain ⟨L, hL⟩ : ∃ L, L = Conv.runesFrom s s.size 0 #[] := ⟨_, rfl⟩
  rw [← hL] at hcv h1 h2
  clear hL hm
  obtain ⟨r, hr⟩ : ∃ r, r = (Utf8.decode s 0).1 := ⟨_, rfl⟩
  rw [← hr] at h1 ⊢
  clear hr
  have h1' : ∀ n, (L ++ Array.replicate n (Value.int .i32 0))[0]? = some (.int .i32 (r : Nat)) := fun n => by rw [Array.getElem?_append_left h2, h1]
  clear h1
  go_enter Tryz.func73, Tryz.ntmps73
  go_wp2_with fail
  exact bodyPost_ret (v := itv ⟨k, s.size, r, false⟩) (by simp [results, Tryz.results73, go_sem, itv]) rfl ⟨rfl, (((Below.refl _ _).alloc (Nat.le_refl _) _).alloc (by simp) _).drew⟩
end Go.Proofs.YtonbfcpbgkpbaaaGreatDoor
end
section
/- Tails and replaced texts: the mathematics. -/
namespace Go.Proofs.YtonbfcpbgkpbaaaGreatDoor
open Go.RowKit
/-- What Tail answers, from length 4 - f on. -/
def tf (l : List UInt8) : Nat → Nat
  | 0 => 0
  | f + 1 => if 3 - f ≤ l.length then (if front (l.drop (l.length - (3 - f))) = (3 - f, false) then 3 - f else tf l f) else 0
def tailL (l : List UInt8) : Nat := tf l 3
theorem tl_extract (s : ByteArray) (a b : Nat) : tl (s.extract a b) = ((tl s).drop a).take (b - a) := by
  simp [tl, List.take_drop]
/-- How many bytes are replaced or taken at once. -/
def stepL (l : List UInt8) : Nat := max (front l).1 1
theorem stepL_pos (l : List UInt8) : 1 ≤ stepL l := Nat.le_max_right _ _
theorem stepL_le (l : List UInt8) (h : l ≠ []) : stepL l ≤ l.length := by
  have := (front_le l).1
  have h0 := List.length_pos_iff.2 h
  unfold stepL; omega
/-- What Replace makes of a text, in so many steps. -/
def replF : Nat → List UInt8 → List UInt8
  | 0, _ => []
  | f + 1, l => if l = [] then [] else (if (front l).2 = true then l.take (stepL l) else [239, 191, 189]) ++ replF f (l.drop (stepL l))
theorem replF_any (n : Nat) : ∀ (l : List UInt8) (f g : Nat), l.length ≤ n → l.length ≤ f → l.length ≤ g → replF f l = replF g l := by
  induction n with
  | zero =>
    intro l f g h _ _
    have h0 : l = [] := List.length_eq_zero_iff.1 (by omega)
    subst h0
    cases f <;> cases g <;> simp [replF]
  | succ n ih =>
    intro l f g h hf hg
    by_cases h0 : l = []
    · subst h0
      cases f <;> cases g <;> simp [replF]
    · have h1 := List.length_pos_iff.2 h0
      have h2 := stepL_pos l
      obtain ⟨f, rfl⟩ : ∃ k, f = k + 1 := ⟨f - 1, by omega⟩
      obtain ⟨g, rfl⟩ : ∃ k, g = k + 1 := ⟨g - 1, by omega⟩
      unfold replF
      rw [if_neg h0, if_neg h0, ih (l.drop (stepL l)) f g (by simp; omega) (by simp; omega) (by simp; omega)]
/-- What Replace makes of a text. -/
def replL (l : List UInt8) : List UInt8 := replF l.length l
theorem replL_nil : replL [] = [] := rfl
theorem replL_cons (l : List UInt8) (h : l ≠ []) : replL l = (if (front l).2 = true then l.take (stepL l) else [239, 191, 189]) ++ replL (l.drop (stepL l)) := by
  have h1 := List.length_pos_iff.2 h
  have h2 := stepL_pos l
  unfold replL
  obtain ⟨k, hk⟩ : ∃ k, l.length = k + 1 := ⟨l.length - 1, by omega⟩
  rw [hk, replF, if_neg h, replF_any _ (l.drop (stepL l)) k _ (Nat.le_refl _) (by simp; omega) (Nat.le_refl _)]
theorem tl_first (s : ByteArray) (n : Nat) : tl (s.extract 0 n) = (tl s).take n := by
  rw [tl_extract]; simp
theorem tl_rest (s : ByteArray) (n : Nat) : tl (s.extract n s.size) = (tl s).drop n := by
  rw [tl_extract, List.take_of_length_le (by simp)]
end Go.Proofs.YtonbfcpbgkpbaaaGreatDoor
end
