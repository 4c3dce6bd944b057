import Derived.Test.YtonbfcpbgkpbaaaDoorJ7
import Derived.Test.YtonbfcpbgkpbaaaDoorJ0
import Derived.Test.YtonbfcpbgkpbaaaDoorJ1
import Derived.Laws.BytesArg
import Derived.Test.YtonbfcpbgkpbaaaDoorJ10
import Derived.Test.YtonbfcpbgkpbaaaDoorJ6
import Derived.Test.YtonbfcpbgkpbaaaDoorJ14
import Derived.Test.YtonbfcpbgkpbaaaDoorJ11
section
/- recipe.areUnlike of any list: its contract. -/
namespace Go.Proofs.YtonbfcpbgkpbaaaDoor
open Go.RowKit Go.Sort Go.Joins Go.Maps
set_option linter.unusedVariables false
set_option linter.unusedSimpArgs false
set_option maxRecDepth 100000
/-- Block b is a map of m texts; S tells which. -/
def MapN (w : World) (b n m : Nat) (S : ByteArray → Bool) : Prop :=
  ∃ D : DataW Unit, w.ownsMap Tryd.prog 9 (plainElem Tryd.prog 3) b n D ∧ Maps.size D = m ∧ ∀ x l, keyOf Tryd.prog 9 (.string x) = some l → Maps.has D l = S x
theorem MapN.made (w : World) : MapN (w.alloc (.map #[] 0)) w.heap.size 0 0 (fun _ => false) :=
  ⟨.map [], World.ownsMap_made _ _ _ _, rfl, fun _ _ _ => rfl⟩
theorem MapN.put {w : World} {b n m : Nat} {S : ByteArray → Bool} {t : TypeId} (h : MapN w b n m S) (ht : Tryd.prog.underlying t = some (.map 9 3)) (hn : n < maxLen) {x : ByteArray} {l : Lit} (hk : keyOf Tryd.prog 9 (.string x) = some l) {a : Nat} (ha : a ≤ 9223372036854775807) :
    ∃ w', (Instr.mapUpdate t (.map (some b)) (.string x) (.int .i64 (a : Nat))).run Tryd.prog w = .ok () w' ∧ MapN w' b (n + 1) (m + if S x = true then 0 else 1) (fun y => decide (y = x) || S y) ∧ w.grownBy w' (some b) := by
  obtain ⟨D, h1, hm, h2⟩ := h
  have hw : (Lit.int .i64 ((a : Nat) : Int)).wf = true := WalkArith.wf_i64 (by omega)
  obtain ⟨w', hrun, r1, r2⟩ := h1.store lawS ht hn hk (plainElem_int (H := Unit) und3 hw)
  refine ⟨w', hrun, ⟨_, r1, ?_, ?_⟩, r2.grown⟩
  · rw [Maps.size_put (h1.tidy lawS), h2 x l hk, hm]
    split <;> omega
  · intro y l' hy
    by_cases hxy : y = x
    · subst hxy
      have : l' = l := Option.some.inj (hy.symm.trans hk)
      subst this
      rw [Maps.has_put_same h1.isMap (lawS.key hk)]
      simp
    · have hl : l' ≠ l := fun e => hxy (by have := lawS.inj (e ▸ hy) hk; cases this; rfl)
      rw [Maps.has_put_other hl, h2 y l' hy]
      simp [hxy]
def memB (l : List ByteArray) (y : ByteArray) : Bool := l.any fun z => decide (y = z)
/-- How many unlike words stand among the first k. -/
def dcn (ws : List ByteArray) : Nat → Nat
  | 0 => 0
  | k + 1 => dcn ws k + if memB (ws.take k) (ws.getD k ⟨#[]⟩) = true then 0 else 1
def unlikeF (ws : List ByteArray) : Bool := (dcn ws ws.length : Int) == (ws.length : Int)
theorem dcn_le (ws : List ByteArray) : ∀ k, dcn ws k ≤ k
  | 0 => Nat.le_refl _
  | k + 1 => by have := dcn_le ws k; unfold dcn; split <;> omega
theorem WSP.cellAt {w : World} {a : Option Addr} {ws : List ByteArray} (h : WSP w a ws) {k : Nat} (hk : k < ws.length) : ∃ b off, a = some ⟨b, off, none⟩ ∧ w.cell? ⟨b, off + k, none⟩ = some (.string (ws.getD k ⟨#[]⟩)) := by
  rcases h with h | ⟨b, off, ha, hc⟩
  · rw [h] at hk; simp at hk
  · exact ⟨b, off, ha, hc k _ (by simp [List.getD, hk])⟩
set_option maxHeartbeats 2000000 in
theorem unlike_any (a : Option Addr) (c : Nat) (ws : List ByteArray) (w : World) (h : WSP w a ws) (hn : ws.length ≤ 4611686018427387904) (hs : ∀ x ∈ ws, x.size ≤ 4611686018427387904) :
    Calls Tryd.prog 13 #[.slice a ws.length c] w fun e w' => e = .returned (.bool (unlikeF ws)) ∧ Below w.heap.size w w' := by
  have HS := Lib.hid h
  have HZ := Lib.hid hs
  obtain ⟨n, hl⟩ : ∃ n, n = ws.length := ⟨_, rfl⟩
  have HL := Lib.hid hl
  have HU := Lib.hid (show unlikeF ws = ((dcn ws n : Int) == (n : Int)) by rw [hl]; rfl)
  rw [← hl] at hn ⊢
  have hm0 := MapN.made w
  have hb0 := box_below w (.map #[] 0)
  obtain ⟨X, hX⟩ : ∃ X, X = w.alloc (.map #[] 0) := ⟨_, rfl⟩
  rw [← hX] at hm0 hb0
  have HX := Lib.hid hX
  have HM0 := Lib.hid hm0
  have HB0 := Lib.hid hb0
  have hmm := @run_makeMap Tryd.prog
  clear h hs hl hX hm0 hb0
  go_enter Tryd.func13, Tryd.ntmps13
  go_wp2_with fail
  rw [← HX.out]
  clear HX hmm
  go_loopw [4, 5, 9] (fun x y i wr => ∃ k : Nat, k ≤ n ∧ i = .int .i64 (k : Nat) ∧ MapN wr w.heap.size k (dcn ws k) (memB (ws.take k)) ∧ Below w.heap.size w wr) (fun _ _ i _ => n - (intOf i).toNat)
  case atStart => exact ⟨0, Nat.zero_le _, rfl, HM0.out, HB0.out⟩
  case round =>
    obtain ⟨k, hk, rfl, hM, hb⟩ := hrel
    by_cases hlt : k < n
    · have hkl : k < ws.length := by have := HL.out; omega
      obtain ⟨b, off, rfl, c0⟩ := (HS.out.below hb).cellAt hkl
      have hget : ws.getD k ⟨#[]⟩ = ws[k] := by simp [List.getD, hkl]
      have hsz := HZ.out ws[k] (List.getElem_mem hkl)
      rw [← hget] at hsz
      obtain ⟨w2, hr, hM2, hg⟩ := hM.put (t := 68) Tryd.underlying68 (by unfold maxLen; omega) (keyS _ hsz) (a := k) (by omega)
      have hM3 : MapN w2 w.heap.size (k + 1) (dcn ws (k + 1)) (memB (ws.take (k + 1))) := by
        obtain ⟨D, d1, d2, d3⟩ := hM2
        refine ⟨D, d1, d2, fun x l hx => ?_⟩
        rw [d3 x l hx, hget]
        unfold memB
        rw [List.take_add_one, List.getElem?_eq_getElem hkl, Option.toList_some, List.any_append]
        simp [Bool.or_comm]
      have HM3 := Lib.hid hM3
      have HB3 := Lib.hid (hb.grown hg hb.size (fun j hj => by cases hj; exact Nat.le_refl _))
      obtain ⟨x, hx⟩ : ∃ x, x = ws.getD k ⟨#[]⟩ := ⟨_, rfl⟩
      rw [← hx] at c0 hr
      clear hM hb hget hsz hM2 hg hM3 hx
      go_wp2_with fail
      go_roundw
      case rel => exact ⟨k + 1, by omega, by go_num, HM3.out, HB3.out⟩
      case measure => simp only [intOf]; omega
    · obtain rfl : k = n := by omega
      have HB := Lib.hid hb
      obtain ⟨D, d1, d2, _⟩ := hM
      have hlen := d1.len (t := 68) Tryd.underlying68 3
      rw [d2] at hlen
      obtain ⟨d, hd⟩ : ∃ d, d = dcn ws k := ⟨_, rfl⟩
      have HD := Lib.hid hd
      rw [← hd] at hlen
      clear d1 d2 hd hb
      go_wp2_with fail
      go_ret
      exact ⟨by rw [HU.out, ← HD.out]; rfl, HB.out⟩
end Go.Proofs.YtonbfcpbgkpbaaaDoor
end
section
/- recipe.Print's wordOf, areMade's isMade, strings.CutPrefix: their contracts. -/
namespace Go.Proofs.YtonbfcpbgkpbaaaDoor
open Go.RowKit Go.Sort Go.Joins
set_option linter.unusedVariables false
set_option linter.unusedSimpArgs false
set_option maxRecDepth 100000
/-- The word of an id. -/
def wordF (ws : List ByteArray) (id : Nat) : ByteArray := if id < 256 then ⟨#[UInt8.ofNat id]⟩ else ws.getD (id - 256) ⟨#[]⟩
theorem byte_text (u : World) (id : Nat) (h : id < 256) : (convert 35 9 (.slice (some ⟨u.heap.size, 0, none⟩) 1 1)).run Tryd.prog (u.alloc (.cells #[.int .u8 (id : Nat)] 5)) = .ok (.string ⟨#[UInt8.ofNat id]⟩) (u.alloc (.cells #[.int .u8 (id : Nat)] 5)) := by
  have h := run_convert_bytes_arg (P := Tryd.prog) (u.alloc (.cells #[.int .u8 (id : Nat)] 5)) 35 5 Tryd.underlying35 Tryd.underlying5 u.heap.size 0 1 1 [(id : Int)] rfl (fun j hj => by
    obtain rfl : j = 0 := by omega
    rw [cell_of_block (heap_alloc_new _ _)]; rfl) 9 Tryd.underlying9
  rw [h]
  rfl
set_option maxHeartbeats 1000000 in
theorem word_low (z id : Nat) (h : id < 256) (w : World) : Calls Tryd.prog 12 #[.int .i64 (id : Nat), .pointer (some ⟨z, 0, none⟩)] w fun e w' => e = .returned (.string ⟨#[UInt8.ofNat id]⟩) ∧ Below w.heap.size w w' := by
  have d0 : decide ((id : Int) < 256) = true := decide_eq_true (by omega)
  have hcv := byte_text w id h
  have hmod : ((id : Nat) : Int) % 256 = (id : Nat) := by omega
  go_enter Tryd.func12, Tryd.ntmps12
  go_wp2_with fail
  go_ret
  exact ⟨rfl, box_below w _⟩
set_option maxHeartbeats 1000000 in
theorem word_high (z id : Nat) (a : Option Addr) (c : Nat) (ws : List ByteArray) (w : World) (h : ¬ id < 256) (hi : id - 256 < ws.length) (hid : id ≤ 4611686018427387904) (c0 : w.cell? ⟨z, 0, none⟩ = some (.slice a ws.length c)) (hw : WSP w a ws) :
    Calls Tryd.prog 12 #[.int .i64 (id : Nat), .pointer (some ⟨z, 0, none⟩)] w fun e w' => e = .returned (.string (ws.getD (id - 256) ⟨#[]⟩)) ∧ w' = w := by
  have d0 : decide ((id : Int) < 256) = false := decide_eq_false (by omega)
  obtain ⟨q, hq⟩ : ∃ q : Nat, id = q + 256 := ⟨id - 256, by omega⟩
  subst hq
  rw [Nat.add_sub_cancel] at hi ⊢
  obtain ⟨b, off, rfl, cc⟩ := hw.cellAt hi
  obtain ⟨n, hn⟩ : ∃ n, n = ws.length := ⟨_, rfl⟩
  rw [← hn] at hi c0
  obtain ⟨x, hx⟩ : ∃ x, x = ws.getD q ⟨#[]⟩ := ⟨_, rfl⟩
  rw [← hx] at cc ⊢
  clear hw hn hx h
  have hsub : ((q + 256 : Nat) : Int) - 256 = (q : Nat) := by omega
  go_enter Tryd.func12, Tryd.ntmps12
  go_wp2_with fail
  go_ret
  exact ⟨rfl, rfl⟩
theorem wordOf_any (z id : Nat) (a : Option Addr) (c : Nat) (ws : List ByteArray) (w : World) (hi : id < 256 + ws.length) (hn : ws.length ≤ 1000000000000) (c0 : w.cell? ⟨z, 0, none⟩ = some (.slice a ws.length c)) (hw : WSP w a ws) :
    Calls Tryd.prog 12 #[.int .i64 (id : Nat), .pointer (some ⟨z, 0, none⟩)] w fun e w' => e = .returned (.string (wordF ws id)) ∧ Below w.heap.size w w' := by
  unfold wordF
  by_cases h : id < 256
  · rw [if_pos h]
    exact word_low z id h w
  · rw [if_neg h]
    refine (word_high z id a c ws w h (by omega) (by omega) c0 hw).mono ?_
    rintro e w' ⟨rfl, rfl⟩
    exact ⟨rfl, Below.refl _ _⟩
/-- A row of marks. -/
structure Marks7 (w : World) (cb g n : Nat) (M : Nat → Bool) : Prop where
  at_ : w.heap[cb]? = some (.cells #[.slice (some ⟨g, 0, none⟩) n n] 69 (0, 0))
  row : ∃ cur, w.heap[g]? = some (.cells cur 4 (0, 0)) ∧ ∀ j, j < n → cur[j]? = some (.bool (M j))
theorem Marks7.cell {w : World} {cb g n : Nat} {M : Nat → Bool} (h : Marks7 w cb g n M) {j : Nat} (hj : j < n) : w.cell? ⟨g, j, none⟩ = some (.bool (M j)) := by
  obtain ⟨cur, h1, h2⟩ := h.row
  rw [cell_of_block h1]
  exact h2 j hj
theorem Marks7.below {w w' : World} {cb g n B : Nat} {M : Nat → Bool} (h : Marks7 w cb g n M) (hb : Below B w w') (hB : w.heap.size ≤ B) : Marks7 w' cb g n M := by
  obtain ⟨cur, h1, h2⟩ := h.row
  exact ⟨(hb.block cb (Nat.lt_of_lt_of_le (Array.getElem?_eq_some_iff.1 h.at_).1 hB)).trans h.at_, cur, (hb.block g (Nat.lt_of_lt_of_le (Array.getElem?_eq_some_iff.1 h1).1 hB)).trans h1, h2⟩
def isMadeF (n : Nat) (M : Nat → Bool) (id : Int) : Bool := decide (0 ≤ id) && decide (id < (n : Int)) && M id.toNat
set_option maxHeartbeats 1000000 in
theorem isMade_any (cb g n : Nat) (M : Nat → Bool) (id : Int) (w : World) (h : Marks7 w cb g n M) (hn : n ≤ 4611686018427387904) :
    Calls Tryd.prog 27 #[.int .i64 id, .pointer (some ⟨cb, 0, none⟩)] w fun e w' => e = .returned (.bool (isMadeF n M id)) ∧ w' = w := by
  have c0 : w.cell? ⟨cb, 0, none⟩ = some (.slice (some ⟨g, 0, none⟩) n n) := by rw [cell_of_block h.at_]; rfl
  unfold isMadeF
  by_cases h0 : 0 ≤ id
  · have d0 : decide (0 ≤ id) = true := decide_eq_true h0
    obtain ⟨k, rfl⟩ : ∃ k : Nat, id = (k : Int) := ⟨id.toNat, by omega⟩
    by_cases h1 : k < n
    · have d1 : decide ((k : Int) < (n : Int)) = true := decide_eq_true (by omega)
      have ck := h.cell h1
      rw [d0, d1, Int.toNat_natCast]
      clear h h0
      go_enter Tryd.func27, Tryd.ntmps27
      go_wp2_with fail
      go_ret
      exact ⟨rfl, rfl⟩
    · have d1 : decide ((k : Int) < (n : Int)) = false := decide_eq_false (by omega)
      rw [d0, d1]
      clear h h0
      go_enter Tryd.func27, Tryd.ntmps27
      go_wp2_with fail
      go_ret
      exact ⟨rfl, rfl⟩
  · have d0 : decide (0 ≤ id) = false := decide_eq_false h0
    rw [d0]
    clear h h0
    go_enter Tryd.func27, Tryd.ntmps27
    go_wp2_with fail
    go_ret
    exact ⟨rfl, rfl⟩
/-- What CutPrefix answers. -/
def cutP (s p : ByteArray) : ByteArray × Bool := if preB s p = true then (s.extract p.size s.size, true) else (s, false)
theorem liteCut_any (s p : ByteArray) (hs : s.size ≤ 9223372036854775807) (w : World) :
    Calls Tryd.prog 45 #[.string s, .string p] w fun e w' => e = .returned (.tuple #[.string (cutP s p).1, .bool (cutP s p).2]) ∧ w' = w := by
  have hP := litePre_any s p hs w
  rw [show (decide (p.size ≤ s.size) && ((s.extract 0 p.size).toList == p.toList)) = preB s p from rfl] at hP
  unfold cutP
  cases hb : preB s p with
  | true =>
    have hle : p.size ≤ s.size := by
      unfold preB at hb
      rw [Bool.and_eq_true, decide_eq_true_eq] at hb
      exact hb.1
    rw [hb] at hP
    clear hb
    go_enter Tryd.func45, Tryd.ntmps45
    go_wp2_with fail
    refine hP.mono ?_
    rintro e w' ⟨rfl, hw⟩
    rw [hw]
    go_wp2_with fail
    go_ret2
    exact ⟨rfl, rfl⟩
  | false =>
    rw [hb] at hP
    clear hb
    go_enter Tryd.func45, Tryd.ntmps45
    go_wp2_with fail
    refine hP.mono ?_
    rintro e w' ⟨rfl, hw⟩
    rw [hw]
    go_wp2_with fail
    go_ret2
    exact ⟨rfl, rfl⟩
theorem cut_any (s p : ByteArray) (hs : s.size ≤ 9223372036854775807) (w : World) :
    Calls Tryd.prog 28 #[.string s, .string p] w fun e w' => e = .returned (.tuple #[.string (cutP s p).1, .bool (cutP s p).2]) ∧ w' = w := by
  have hP := liteCut_any s p hs w
  generalize (cutP s p).1 = a at *
  generalize (cutP s p).2 = b at *
  go_enter Tryd.func28, Tryd.ntmps28
  go_wp2_with fail
  refine hP.mono ?_
  rintro e w' ⟨rfl, hw⟩
  rw [hw]
  go_wp2_with fail
  go_ret2
  exact ⟨rfl, rfl⟩
end Go.Proofs.YtonbfcpbgkpbaaaDoor
end
section
/- recipe.areMade of any merges: its contract. -/
namespace Go.Proofs.YtonbfcpbgkpbaaaDoor
open Go.RowKit Go.Sort Go.Joins
set_option linter.unusedVariables false
set_option linter.unusedSimpArgs false
set_option maxRecDepth 100000
theorem wp_named9 {P : Program} {c : Code} {Q : Exit → Act → World → Prop} {a : Act} {w : World} (h : ∀ X, X = w → c.wp P Q a X) : c.wp P Q a w := h w rfl
theorem MSP.cellsAt {w : World} {a : Option Addr} {l : List Mg} (h : MSP w a l) {k : Nat} (hk : k < l.length) : ∃ b off, a = some ⟨b, off, none⟩ ∧ MgAt w b (off + k * 3) l[k] := by
  rcases h with h | ⟨b, off, ha, hc⟩
  · rw [h] at hk; simp at hk
  · exact ⟨b, off, ha, hc k l[k] (List.getElem?_eq_getElem hk)⟩
/-- May the word of an id be made so? -/
def cutOk (ws : List ByteArray) (x : Mg) : Bool := (cutP (wordF ws x.i.toNat) (wordF ws x.l.toNat)).2 && ((cutP (wordF ws x.i.toNat) (wordF ws x.l.toNat)).1.toList == (wordF ws x.r.toNat).toList)
def newId (n : Nat) (M : Nat → Bool) (i : Int) : Bool := decide (0 ≤ i) && decide (i < (n : Int)) && !M i.toNat
def madeF (ws : List ByteArray) (n : Nat) : List Mg → (Nat → Bool) → Bool
  | [], _ => true
  | x :: l, M => if newId n M x.i = true ∧ isMadeF n M x.l = true ∧ isMadeF n M x.r = true ∧ cutOk ws x = true then madeF ws n l (fun j => decide (j = x.i.toNat) || M j) else false
theorem Marks7.mark {w : World} {cb g n : Nat} {M : Nat → Bool} (h : Marks7 w cb g n M) (i : Nat) (hi : i < n) : Marks7 (w.setCell ⟨g, i, none⟩ (.bool true)) cb g n (fun j => decide (j = i) || M j) := by
  obtain ⟨cur, h1, h2⟩ := h.row
  have hne : cb ≠ g := by
    rintro rfl
    have h3 := h.at_
    rw [h1] at h3
    injection h3 with h3
    injection h3 with _ h3
    exact absurd h3 (by decide)
  refine ⟨(Below.heap_setCell w ⟨g, i, none⟩ _ cb hne).trans h.at_, _, block_setCell h1 (i := i) _, fun j hj => ?_⟩
  have hj2 := h2 j hj
  have hlt := (Array.getElem?_eq_some_iff.1 hj2).1
  by_cases hji : j = i
  · subst hji
    simp [hlt]
  · rw [Array.getElem?_setIfInBounds_ne (fun e => hji e.symm), hj2]
    simp [hji]
theorem make_marks (N : Nat) (hN : N ≤ 1000000256) : ∃ Z : Array Value, Z.size = N ∧ (∀ j, j < N → Z[j]? = some (.bool false)) ∧ ∀ u : World, (Instr.makeSlice 69 (.int .i64 (N : Nat)) (.int .i64 (N : Nat))).run Tryd.prog u = .ok (.slice (some ⟨u.heap.size, 0, none⟩) N N) (u.alloc (.cells Z 4)) := by
  obtain ⟨i0, hi, hz0, hz1, hz2⟩ := info_parts infoBool
  refine ⟨madeCells (Value.bool false).cells (N * i0.size), by rw [hz1]; simp [madeCells], fun j hj => ?_, fun u => ?_⟩
  · rw [hz1, Nat.mul_one]
    simp [madeCells, Value.cells, Nat.mod_one, hj]
  · have h := run_make (P := Tryd.prog) u 69 4 i0 _ Tryd.underlying69 hi hz0 .i64 .i64 (N : Int) (N : Int) (by omega) (Int.le_refl _) (by rw [hz2]; omega) (by omega)
    have e : ((N : Int)).toNat = N := by omega
    rw [e] at h
    exact h
theorem Marks7.cong {w : World} {cb g n : Nat} {M M' : Nat → Bool} (h : Marks7 w cb g n M) (he : ∀ j, M j = M' j) : Marks7 w cb g n M' := by
  have : M = M' := funext he
  rwa [← this]
theorem madeF_cons (ws : List ByteArray) (n : Nat) (x : Mg) (l : List Mg) (M : Nat → Bool) : madeF ws n (x :: l) M = if newId n M x.i = true ∧ isMadeF n M x.l = true ∧ isMadeF n M x.r = true ∧ cutOk ws x = true then madeF ws n l (fun j => decide (j = x.i.toNat) || M j) else false := rfl
theorem wordF_size (ws : List ByteArray) (h : ∀ x ∈ ws, x.size ≤ 4611686018427387904) (id : Nat) : (wordF ws id).size ≤ 4611686018427387904 := by
  unfold wordF
  split
  · show 1 ≤ _
    omega
  · by_cases hk : id - 256 < ws.length
    · rw [show ws.getD (id - 256) ⟨#[]⟩ = ws[id - 256] by simp [List.getD, hk]]
      exact h _ (List.getElem_mem hk)
    · rw [show ws.getD (id - 256) ⟨#[]⟩ = ⟨#[]⟩ by simp [List.getD, List.getElem?_eq_none (Nat.le_of_not_lt hk)]]
      show 0 ≤ _
      omega
set_option maxHeartbeats 8000000 in
theorem made_any (z : Nat) (am aw : Option Addr) (cm cw : Nat) (ms : List Mg) (ws : List ByteArray) (w : World) (hz : z < w.heap.size) (c0 : w.cell? ⟨z, 0, none⟩ = some (.slice aw ws.length cw)) (hW : WSP w aw ws) (hM : MSP w am ms) (hlen : ws.length = ms.length) (hn : ms.length ≤ 1000000000) (hbig : ∀ x ∈ ws, x.size ≤ 4611686018427387904) :
    Calls Tryd.prog 14 #[.slice am ms.length cm, .func (.func 12) #[] #[.pointer (some ⟨z, 0, none⟩)]] w fun e w' => e = .returned (.bool (madeF ws (256 + ms.length) ms (fun j => decide (j < 256)))) ∧ Below w.heap.size w w' := by
  obtain ⟨n, hln⟩ : ∃ n, n = ms.length := ⟨_, rfl⟩
  have HLN := Lib.hid hln
  have HC := Lib.hid c0
  have HW := Lib.hid hW
  have HM := Lib.hid hM
  have HLW := Lib.hid hlen
  have HBG := Lib.hid hbig
  have HZ := Lib.hid hz
  rw [← hln] at hn ⊢
  clear hln c0 hW hM hlen hbig hz
  have hmf : ∀ (fn : Fn) (first cap : Array Value) (w : World), (Instr.makeFunc fn first cap).run Tryd.prog w = .ok (.func fn first cap) w := fun _ _ _ _ => rfl
  obtain ⟨N, hN⟩ : ∃ N, N = 256 + n := ⟨_, rfl⟩
  have HN := Lib.hid hN
  have e256 : (256 : Int) + (n : Int) = (N : Nat) := by omega
  have hNb : N ≤ 1000000256 := by omega
  obtain ⟨Z, hZZ, hZ0, hmk⟩ := make_marks N hNb
  rw [← hN]
  clear hN
  go_enter Tryd.func14, Tryd.ntmps14
  go_wp2_with fail
  refine wp_named9 fun X hX => ?_
  have hK0 : Marks7 X (w.heap.size + 1) w.heap.size N (fun j => decide (j < 0)) := by
    rw [hX]
    refine ⟨by have := heap_alloc_new (w.alloc (.cells Z 4)) (.cells #[.slice (some ⟨w.heap.size, 0, none⟩) N N] 69); rwa [World.size_alloc] at this, Z, ?_, fun j hj => by rw [hZ0 j hj]; rfl⟩
    rw [Below.heap_alloc _ _ _ (by simp)]
    exact heap_alloc_new w _
  have hB0 : Below w.heap.size w X := by rw [hX]; exact (box_below w _).trans ((box_below _ _).mono (by simp))
  have HK0 := Lib.hid hK0
  have HB0 := Lib.hid hB0
  obtain ⟨g, hg⟩ : ∃ g, g = w.heap.size := ⟨_, rfl⟩
  have HG := Lib.hid hg
  obtain ⟨cb, hcb⟩ : ∃ cb, cb = w.heap.size + 1 := ⟨_, rfl⟩
  have HCB := Lib.hid hcb
  rw [← hcb, ← hg] at HK0
  rw [← hcb, ← hg]
  clear hX hK0 hB0 hZZ hZ0 hmk hg hcb
  go_loopw [6, 16] (fun x i wr => ∃ k : Nat, k ≤ 256 ∧ i = .int .i64 (k : Nat) ∧ Marks7 wr cb g N (fun j => decide (j < k)) ∧ Below w.heap.size w wr) (fun _ i _ => 256 - (intOf i).toNat)
  case atStart => exact ⟨0, Nat.zero_le _, rfl, HK0.out, HB0.out⟩
  case round =>
    obtain ⟨k, hk, rfl, hK, hb⟩ := hrel
    by_cases hlt : k < 256
    · have hkN : k < N := by have := HN.out; omega
      have c0 : wr.cell? ⟨cb, 0, none⟩ = some (.slice (some ⟨g, 0, none⟩) N N) := by rw [cell_of_block hK.at_]; rfl
      have ck := hK.cell hkN
      obtain ⟨old, hold⟩ : ∃ old, old = Value.bool (decide (k < k)) := ⟨_, rfl⟩
      rw [← hold] at ck
      have f0 : wr.frozen? ⟨g, k, none⟩ = false := by obtain ⟨cur, h1, _⟩ := hK.row; exact unfrozen_of_block h1 k
      have HK := Lib.hid ((hK.mark k hkN).cong (M' := fun j => decide (j < k + 1)) (fun j => by rw [Bool.eq_iff_iff]; simp; omega))
      have HB := Lib.hid (hb.setCell (p := ⟨g, k, none⟩) (by show w.heap.size ≤ g; have := HG.out; omega) (.bool true))
      clear hK hb hold
      go_wp2_with fail
      go_roundw
      case rel => exact ⟨k + 1, by omega, by go_num, HK.out, HB.out⟩
      case measure => simp only [intOf]; omega
    · obtain rfl : k = 256 := by omega
      have HK := Lib.hid hK
      have HB := Lib.hid hb
      clear hK hb HK0 HB0
      go_wp2_with fail
      obtain ⟨R, hR⟩ : ∃ R, R = madeF ws N ms (fun j => decide (j < 256)) := ⟨_, rfl⟩
      have HR := Lib.hid hR
      clear hR
      go_loopw [9, 10, 11, 26] (fun y s o i wx => ∃ (q : Nat) (M : Nat → Bool), q ≤ n ∧ i = .int .i64 (q : Nat) ∧ Marks7 wx cb g N M ∧ madeF ws N (ms.drop q) M = R ∧ Below w.heap.size w wx) (fun _ _ _ i _ => n - (intOf i).toNat)
      case atStart => exact ⟨0, _, Nat.zero_le _, rfl, HK.out, HR.out.symm, HB.out⟩
      case round =>
        obtain ⟨q, M, hq, rfl, hK1, hR1, hb1⟩ := hrel
        by_cases hlt : q < n
        · have hql : q < ms.length := by have := HLN.out; omega
          have hdrop : ms.drop q = ms[q] :: ms.drop (q + 1) := List.drop_eq_getElem_cons hql
          rw [hdrop, madeF_cons] at hR1
          obtain ⟨b, off, rfl, m0, m1, m2⟩ := (HM.out.below hb1).cellsAt hql
          obtain ⟨x, hx⟩ : ∃ x, x = ms[q] := ⟨_, rfl⟩
          rw [← hx] at hR1 m0 m1 m2
          obtain ⟨xl, xr, xi⟩ := x
          dsimp only at hR1 m0 m1 m2
          have bx := box_below wr (.cells #[.int .i64 xl, .int .i64 xr, .int .i64 xi] 52)
          have hy := heap_alloc_new wr (.cells #[.int .i64 xl, .int .i64 xr, .int .i64 xi] 52)
          have hK2 := hK1.below bx (Nat.le_refl _)
          have HB2 := Lib.hid (hb1.trans (bx.mono hb1.size))
          clear hK1 hb1 hdrop hx
          go_upto_region 11 with fail
          obtain ⟨W, hW1⟩ : ∃ W, W = wr.alloc (.cells #[.int .i64 xl, .int .i64 xr, .int .i64 xi] 52) := ⟨_, rfl⟩
          rw [← hW1] at hy hK2 HB2 ⊢
          obtain ⟨y, hyy⟩ : ∃ y, y = wr.heap.size := ⟨_, rfl⟩
          rw [← hyy] at hy ⊢
          clear bx hW1 hyy m0 m1 m2
          have y0 : W.cell? ⟨y, 0, none⟩ = some (.int .i64 xl) := by rw [cell_of_block hy]; rfl
          have y1 : W.cell? ⟨y, 1, none⟩ = some (.int .i64 xr) := by rw [cell_of_block hy]; rfl
          have y2 : W.cell? ⟨y, 2, none⟩ = some (.int .i64 xi) := by rw [cell_of_block hy]; rfl
          have c0 : W.cell? ⟨cb, 0, none⟩ = some (.slice (some ⟨g, 0, none⟩) N N) := by rw [cell_of_block hK2.at_]; rfl
          have hI1 := isMade_any cb g N M xl W hK2 (by omega)
          have hI2 := isMade_any cb g N M xr W hK2 (by omega)
          have HY := Lib.hid hy
          have HK2 := Lib.hid hK2
          have HR1 := Lib.hid hR1
          clear hy hK2 hR1
          by_cases hi0 : 0 ≤ xi
          · have d0 : decide (xi < 0) = false := decide_eq_false (by omega)
            by_cases hiN : xi < (N : Int)
            · have d1 : decide ((N : Int) ≤ xi) = false := decide_eq_false (by omega)
              obtain ⟨i, rfl⟩ : ∃ i : Nat, xi = (i : Int) := ⟨xi.toNat, by omega⟩
              have hiN' : i < N := by omega
              have ci := HK2.out.cell hiN'
              cases hMi : M i with
              | true =>
                rw [hMi] at ci
                have HRF : Hid (R = false) := Lib.hid (by rw [← HR1.out, if_neg]; rintro ⟨h, -⟩; simp [newId, hMi] at h)
                clear hI1 hI2 hMi
                go_wp2_with fail
                go_ret
                exact ⟨by rw [← HR.out, HRF.out]; rfl, HB2.out⟩
              | false =>
                rw [hMi] at ci
                cases hl : isMadeF N M xl with
                | false =>
                  have HRF : Hid (R = false) := Lib.hid (by rw [← HR1.out, if_neg]; rintro ⟨-, h, -⟩; rw [hl] at h; cases h)
                  rw [hl] at hI1
                  clear hI2 hMi hl
                  go_wp2_with fail
                  refine hI1.mono ?_
                  rintro e w' ⟨rfl, hw⟩
                  rw [hw]
                  clear hw w' hI1
                  go_wp2_with fail
                  go_ret
                  exact ⟨by rw [← HR.out, HRF.out]; rfl, HB2.out⟩
                | true =>
                  rw [hl] at hI1
                  cases hr : isMadeF N M xr with
                  | false =>
                    have HRF : Hid (R = false) := Lib.hid (by rw [← HR1.out, if_neg]; rintro ⟨-, -, h, -⟩; rw [hr] at h; cases h)
                    rw [hr] at hI2
                    clear hMi hl hr
                    go_wp2_with fail
                    refine hI1.mono ?_
                    rintro e w' ⟨rfl, hw⟩
                    rw [hw]
                    clear hw w' hI1
                    go_wp2_with fail
                    refine hI2.mono ?_
                    rintro e w' ⟨rfl, hw⟩
                    rw [hw]
                    clear hw w' hI2
                    go_wp2_with fail
                    go_ret
                    exact ⟨by rw [← HR.out, HRF.out]; rfl, HB2.out⟩
                  | true =>
                    rw [hr] at hI2
                    have HMI := Lib.hid hMi
                    have HLI := Lib.hid hl
                    have HRI := Lib.hid hr
                    clear hMi hl hr
                    go_wp2_with fail
                    refine hI1.mono ?_
                    rintro e w' ⟨rfl, hw⟩
                    rw [hw]
                    clear hw w' hI1
                    go_wp2_with fail
                    refine hI2.mono ?_
                    rintro e w' ⟨rfl, hw⟩
                    rw [hw]
                    clear hw w' hI2
                    obtain ⟨l, rfl⟩ : ∃ l : Nat, xl = (l : Int) := ⟨xl.toNat, by have h := HLI.out; unfold isMadeF at h; simp at h; omega⟩
                    obtain ⟨r, rfl⟩ : ∃ r : Nat, xr = (r : Int) := ⟨xr.toNat, by have h := HRI.out; unfold isMadeF at h; simp at h; omega⟩
                    have hlN : l < N := by have h := HLI.out; unfold isMadeF at h; simp at h; omega
                    have hrN : r < N := by have h := HRI.out; unfold isMadeF at h; simp at h; omega
                    have hRc : R = (((cutP (wordF ws i) (wordF ws l)).2 && ((cutP (wordF ws i) (wordF ws l)).1.toList == (wordF ws r).toList)) && madeF ws N (ms.drop (q + 1)) (fun j => decide (j = i) || M j)) := by
                      rw [← HR1.out]
                      have h1 : newId N M (i : Int) = true := by unfold newId; rw [Int.toNat_natCast, HMI.out]; simp; omega
                      have hcc : cutOk ws ⟨(l : Int), (r : Int), (i : Int)⟩ = ((cutP (wordF ws i) (wordF ws l)).2 && ((cutP (wordF ws i) (wordF ws l)).1.toList == (wordF ws r).toList)) := rfl
                      rw [← hcc]
                      by_cases hc : cutOk ws ⟨(l : Int), (r : Int), (i : Int)⟩ = true
                      · rw [if_pos ⟨h1, HLI.out, HRI.out, hc⟩, hc]; rfl
                      · rw [if_neg (fun h => hc h.2.2.2), Bool.eq_false_iff.2 hc]; rfl
                    have HWX : Hid (∀ (id : Nat) (wx : World), id < N → Below W.heap.size W wx → Calls Tryd.prog 12 #[.int .i64 (id : Nat), .pointer (some ⟨z, 0, none⟩)] wx fun e w' => ∃ v, e = .returned v ∧ Below wx.heap.size wx w' ∧ v = .string (wordF ws id)) := Lib.hid fun id wx hid hbx => by
                      have hbw := HB2.out.trans (hbx.mono HB2.out.size)
                      have hzc := (hbw.cell (p := ⟨z, 0, none⟩) HZ.out).trans HC.out
                      exact (wordOf_any z id aw cw ws wx (by have := HN.out; have := HLN.out; have := HLW.out; omega) (by have := HLN.out; have := HLW.out; omega) hzc (HW.out.below hbw)).mono fun e w' h => ⟨_, h.1, h.2, rfl⟩
                    have hsz := wordF_size ws HBG.out i
                    obtain ⟨wi, hwi⟩ : ∃ wi, wi = wordF ws i := ⟨_, rfl⟩
                    obtain ⟨wl, hwl⟩ : ∃ wl, wl = wordF ws l := ⟨_, rfl⟩
                    obtain ⟨wv, hwv⟩ : ∃ wv, wv = wordF ws r := ⟨_, rfl⟩
                    have HW0 := fun wx hbx => HWX.out i wx hiN' hbx
                    have HW1 := fun wx hbx => HWX.out l wx hlN hbx
                    have HW2 := Lib.hid (fun wx hbx => HWX.out r wx hrN hbx)
                    rw [← hwi] at hRc hsz HW0
                    rw [← hwl] at hRc HW1
                    rw [← hwv] at hRc HW2
                    have HCT := fun (wx : World) (_ : Below W.heap.size W wx) => (cut_any wi wl (by omega) wx).mono (fun e w' h => (⟨_, h.1, by rw [h.2]; exact Below.refl _ _, rfl⟩ : ∃ v, e = .returned v ∧ Below wx.heap.size wx w' ∧ v = .tuple #[.string (cutP wi wl).1, .bool (cutP wi wl).2]))
                    obtain ⟨p1, hp1⟩ : ∃ p, p = (cutP wi wl).1 := ⟨_, rfl⟩
                    obtain ⟨p2, hp2⟩ : ∃ p, p = (cutP wi wl).2 := ⟨_, rfl⟩
                    rw [← hp1, ← hp2] at hRc HCT
                    have hylt : y < W.heap.size := (Array.getElem?_eq_some_iff.1 HY.out).1
                    have HRC := Lib.hid hRc
                    clear hwi hwl hwv hp1 hp2 hRc y0 y1 y2 c0 ci
                    go_upto_region 13 with fail
                    refine wp_region_mono 14 [62, 63, 64, 65, 66, 67, 68, 69, 70, 61, 71, 72, 10, 11] [qR (.func (.func 12) #[] #[.pointer (some ⟨z, 0, none⟩)]),
                        qR (.pointer (some ⟨y, 2, none⟩)),
                        qR (.int .i64 (i : Nat)),
                        qR (.string wi),
                        qR (.func (.func 12) #[] #[.pointer (some ⟨z, 0, none⟩)]),
                        qR (.pointer (some ⟨y, 0, none⟩)),
                        qR (.int .i64 (l : Nat)),
                        qR (.string wl),
                        qR (.tuple #[.string p1, .bool p2]),
                        qR (.tuple #[.string p1, .bool p2]),
                        qR (.string p1),
                        qR (.bool p2),
                        qR (.string p1),
                        qR (.bool p2)] (by kernel_rfl) (by kernel_rfl) rfl rfl ?stab ?steps ?fin
                    case stab =>
                      intro φ hφ
                      simp only [List.mem_cons, List.not_mem_nil, or_false] at hφ
                      rcases hφ with rfl | rfl | rfl | rfl | rfl | rfl | rfl | rfl | rfl | rfl | rfl | rfl | rfl | rfl
                      · exact fun _ _ _ _ h => h
                      · exact fun _ _ _ _ h => h
                      · exact fun _ _ _ _ h => h
                      · exact fun _ _ _ _ h => h
                      · exact fun _ _ _ _ h => h
                      · exact fun _ _ _ _ h => h
                      · exact fun _ _ _ _ h => h
                      · exact fun _ _ _ _ h => h
                      · exact fun _ _ _ _ h => h
                      · exact fun _ _ _ _ h => h
                      · exact fun _ _ _ _ h => h
                      · exact fun _ _ _ _ h => h
                      · exact fun _ _ _ _ h => h
                      · exact fun _ _ _ _ h => h
                    case steps =>
                      have hBx : ∀ wx, Below W.drew.heap.size W.drew wx → Below W.heap.size W wx := fun wx hb => ⟨hb.os, hb.tape, hb.output, hb.size, hb.block⟩
                      refine ⟨?_, ?_, ?_, ?_, ?_, ?_, ?_, ?_, ?_, ?_, ?_, ?_, ?_, ?_, trivial⟩
                      · intro a' he wx hb hd
                        have e0 : a'.eval (.tmp 1) = .func (.func 12) #[] #[.pointer (some ⟨z, 0, none⟩)] := he.get rfl
                        exact mStep_read rfl (by simp [execOp, e0]) rfl
                      · intro a' he wx hb hd
                        have e0 : a'.eval (.tmp 9) = .pointer (some ⟨y, 0, none⟩) := he.get rfl
                        refine mStep_read rfl ?_ rfl
                        simp only [execOp, e0]
                        go_simp
                      · intro a' he wx hb hd
                        have e0 : a'.eval (.tmp 63) = .pointer (some ⟨y, 2, none⟩) := hd 1 rfl _ _ rfl rfl
                        have hyx := ((hBx wx hb).block y hylt).trans HY.out
                        have c0 := cell_of_block hyx (i := 0)
                        have c1 := cell_of_block hyx (i := 1)
                        have c2 := cell_of_block hyx (i := 2)
                        have c0 : wx.cell? ⟨y, 0, none⟩ = some (.int .i64 (l : Nat)) := c0
                        have c1 : wx.cell? ⟨y, 1, none⟩ = some (.int .i64 (r : Nat)) := c1
                        have c2 : wx.cell? ⟨y, 2, none⟩ = some (.int .i64 (i : Nat)) := c2
                        refine mStep_read rfl ?_ rfl
                        simp only [execOp, e0]
                        go_simp
                      · intro a' he wx hb hd
                        have e0 : a'.eval (.tmp 62) = .func (.func 12) #[] #[.pointer (some ⟨z, 0, none⟩)] := hd 0 rfl _ _ rfl rfl
                        have e1 : a'.eval (.tmp 64) = .int .i64 (i : Nat) := hd 2 rfl _ _ rfl rfl
                        exact mStep_call rfl (by simp [execOp, e0, e1, resolve]; rfl) (HW0 wx (hBx wx hb))
                      · intro a' he wx hb hd
                        have e0 : a'.eval (.tmp 1) = .func (.func 12) #[] #[.pointer (some ⟨z, 0, none⟩)] := he.get rfl
                        exact mStep_read rfl (by simp [execOp, e0]) rfl
                      · intro a' he wx hb hd
                        have e0 : a'.eval (.tmp 9) = .pointer (some ⟨y, 0, none⟩) := he.get rfl
                        refine mStep_read rfl ?_ rfl
                        simp only [execOp, e0]
                        go_simp
                      · intro a' he wx hb hd
                        have e0 : a'.eval (.tmp 67) = .pointer (some ⟨y, 0, none⟩) := hd 5 rfl _ _ rfl rfl
                        have hyx := ((hBx wx hb).block y hylt).trans HY.out
                        have c0 := cell_of_block hyx (i := 0)
                        have c1 := cell_of_block hyx (i := 1)
                        have c2 := cell_of_block hyx (i := 2)
                        have c0 : wx.cell? ⟨y, 0, none⟩ = some (.int .i64 (l : Nat)) := c0
                        have c1 : wx.cell? ⟨y, 1, none⟩ = some (.int .i64 (r : Nat)) := c1
                        have c2 : wx.cell? ⟨y, 2, none⟩ = some (.int .i64 (i : Nat)) := c2
                        refine mStep_read rfl ?_ rfl
                        simp only [execOp, e0]
                        go_simp
                      · intro a' he wx hb hd
                        have e0 : a'.eval (.tmp 66) = .func (.func 12) #[] #[.pointer (some ⟨z, 0, none⟩)] := hd 4 rfl _ _ rfl rfl
                        have e1 : a'.eval (.tmp 68) = .int .i64 (l : Nat) := hd 6 rfl _ _ rfl rfl
                        exact mStep_call rfl (by simp [execOp, e0, e1, resolve]; rfl) (HW1 wx (hBx wx hb))
                      · intro a' he wx hb hd
                        have e0 : a'.eval (.tmp 65) = .string wi := hd 3 rfl _ _ rfl rfl
                        have e1 : a'.eval (.tmp 69) = .string wl := hd 7 rfl _ _ rfl rfl
                        exact mStep_call rfl (by simp [execOp, e0, e1, resolve]; rfl) (HCT wx (hBx wx hb))
                      · intro a' he wx hb hd
                        have e0 : a'.eval (.tmp 70) = .tuple #[.string p1, .bool p2] := hd 8 rfl _ _ rfl rfl
                        exact mStep_read rfl (by simp [execOp, e0]) rfl
                      · intro a' he wx hb hd
                        have e0 : a'.eval (.tmp 61) = .tuple #[.string p1, .bool p2] := hd 9 rfl _ _ rfl rfl
                        refine mStep_read rfl ?_ rfl
                        first | (simp [execOp, e0]; done) | (simp [execOp, e0]; go_simp; done) | (simp [execOp, e0, resolve]; go_simp; done) | (simp only [execOp, e0]; go_simp)
                      · intro a' he wx hb hd
                        have e0 : a'.eval (.tmp 61) = .tuple #[.string p1, .bool p2] := hd 9 rfl _ _ rfl rfl
                        refine mStep_read rfl ?_ rfl
                        first | (simp [execOp, e0]; done) | (simp [execOp, e0]; go_simp; done) | (simp [execOp, e0, resolve]; go_simp; done) | (simp only [execOp, e0]; go_simp)
                      · intro a' he wx hb hd
                        have e0 : a'.eval (.tmp 71) = .string p1 := hd 10 rfl _ _ rfl rfl
                        exact mStep_read rfl (by simp [execOp, e0]) rfl
                      · intro a' he wx hb hd
                        have e0 : a'.eval (.tmp 72) = .bool p2 := hd 11 rfl _ _ rfl rfl
                        exact mStep_read rfl (by simp [execOp, e0]) rfl
                    case fin =>
                      rintro wx hb _ rfl _ rfl _ rfl _ rfl _ rfl _ rfl _ rfl _ rfl _ rfl _ rfl _ rfl _ rfl _ rfl _ rfl
                      simp only [finV, Act.put, List.setIfInBounds_toArray, List.set_cons_succ, List.set_cons_zero, List.drop_succ_cons, List.drop_zero]
                      have hbx : Below W.heap.size W wx := ⟨hb.os, hb.tape, hb.output, hb.size, hb.block⟩
                      have HBX := Lib.hid (HB2.out.trans (hbx.mono HB2.out.size))
                      have hyx := (hbx.block y hylt).trans HY.out
                      have y1 : wx.cell? ⟨y, 1, none⟩ = some (.int .i64 (r : Nat)) := by rw [cell_of_block hyx]; rfl
                      have hW2 := HW2.out wx hbx
                      have hKx := HK2.out.below hbx (Nat.le_refl _)
                      clear HW0 HW1 HCT hb hbx
                      cases p2 with
                      | false =>
                        have HRF : Hid (R = false) := Lib.hid (by rw [HRC.out]; simp)
                        clear y1 hW2 hyx hKx
                        go_wp2_with fail
                        go_ret
                        exact ⟨by rw [← HR.out, HRF.out]; rfl, HBX.out⟩
                      | true =>
                        have HYX := Lib.hid hyx
                        have HKX := Lib.hid hKx
                        clear hyx hKx
                        go_wp2_with fail
                        refine hW2.mono ?_
                        rintro e w5 ⟨v5, rfl, hb5, rfl⟩
                        have HB5 := Lib.hid (HBX.out.trans (hb5.mono HBX.out.size))
                        have hK5 := HKX.out.below hb5 (Nat.le_refl _)
                        have hy5 := (hb5.block y (Array.getElem?_eq_some_iff.1 HYX.out).1).trans HYX.out
                        have y2 : w5.cell? ⟨y, 2, none⟩ = some (.int .i64 (i : Nat)) := by rw [cell_of_block hy5]; rfl
                        have c0 : w5.cell? ⟨cb, 0, none⟩ = some (.slice (some ⟨g, 0, none⟩) N N) := by rw [cell_of_block hK5.at_]; rfl
                        have ci := hK5.cell hiN'
                        have fi : w5.frozen? ⟨g, i, none⟩ = false := by obtain ⟨cur, h1, _⟩ := hK5.row; exact unfrozen_of_block h1 i
                        have HK5 := Lib.hid (hK5.mark i hiN')
                        obtain ⟨old, hold⟩ : ∃ old, old = Value.bool (M i) := ⟨_, rfl⟩
                        rw [← hold] at ci
                        clear hW2 hb5 hK5 hy5 y1 hold
                        cases he : (p1.toList == wv.toList) with
                        | false =>
                          have HRF : Hid (R = false) := Lib.hid (by rw [HRC.out, he]; simp)
                          have dn : (p1.toList != wv.toList) = true := by rw [bne, he]; rfl
                          clear y2 c0 ci fi
                          go_wp2_with fail
                          go_ret
                          exact ⟨by rw [← HR.out, HRF.out]; rfl, HB5.out⟩
                        | true =>
                          have HRN : Hid (madeF ws N (ms.drop (q + 1)) (fun j => decide (j = i) || M j) = R) := Lib.hid (by rw [HRC.out, he]; simp)
                          have dn : (p1.toList != wv.toList) = false := by rw [bne, he]; rfl
                          have HB6 := Lib.hid (HB5.out.setCell (p := ⟨g, i, none⟩) (by show w.heap.size ≤ g; have := HG.out; omega) (.bool true))

                          go_wp2_with fail
                          refine ⟨?_, ?measure⟩
                          · (repeat apply Exists.intro)
                            refine ⟨?_, rfl⟩
                            exact ⟨q + 1, _, by omega, by go_num, HK5.out, HRN.out, HB6.out⟩
                          case measure =>
                            show n - (intOf (.int .i64 ((q : Int) + 1))).toNat < n - (intOf (.int .i64 (q : Int))).toNat
                            simp only [intOf]
                            omega
            · have d1 : decide ((N : Int) ≤ xi) = true := decide_eq_true (by omega)
              have HRF : Hid (R = false) := Lib.hid (by rw [← HR1.out, if_neg]; rintro ⟨h, -⟩; simp [newId] at h; omega)
              clear hI1 hI2
              go_wp2_with fail
              go_ret
              exact ⟨by rw [← HR.out, HRF.out]; rfl, HB2.out⟩
          · have d0 : decide (xi < 0) = true := decide_eq_true (by omega)
            have HRF : Hid (R = false) := Lib.hid (by rw [← HR1.out, if_neg]; rintro ⟨h, -⟩; simp [newId] at h; omega)
            clear hI1 hI2
            go_wp2_with fail
            go_ret
            exact ⟨by rw [← HR.out, HRF.out]; rfl, HB2.out⟩
        · have hqn : ms.drop q = [] := List.drop_eq_nil_of_le (by have := HLN.out; omega)
          rw [hqn] at hR1
          have HRT : Hid (R = true) := Lib.hid hR1.symm
          have HB2 := Lib.hid hb1
          clear hK1 hR1 hb1 hqn
          go_wp2_with fail
          go_ret
          exact ⟨by rw [← HR.out, HRT.out]; rfl, HB2.out⟩
end Go.Proofs.YtonbfcpbgkpbaaaDoor
end
section
/- Recipes: the merges that are printed mean what they meant: the mathematics. -/
namespace Go.Proofs.YtonbfcpbgkpbaaaDoor
set_option linter.unusedVariables false
set_option linter.unusedSimpArgs false
set_option maxRecDepth 100000
theorem toList_tl (s : ByteArray) : s.toList = tl s := ByteArray.toList_eq s
theorem tl_inj {a b : ByteArray} (h : tl a = tl b) : a = b := by
  cases a; cases b
  simp at h
  rw [h]
/-- How many marks stand below a number. -/
def cnt7 (M : Nat → Bool) : Nat → Nat
  | 0 => 0
  | k + 1 => cnt7 M k + (M k).toNat
theorem cnt7_le (M : Nat → Bool) : ∀ n, cnt7 M n ≤ n
  | 0 => Nat.le_refl _
  | n + 1 => by
    have := cnt7_le M n
    have := Bool.toNat_le (M n)
    unfold cnt7
    omega
theorem cnt7_all {M : Nat → Bool} : ∀ {n : Nat}, cnt7 M n = n → ∀ j, j < n → M j = true
  | 0, _, j, h => by omega
  | n + 1, h, j, hj => by
    have hle := cnt7_le M n
    rw [cnt7] at h
    cases hM : M n with
    | true =>
      rw [hM] at h
      by_cases e : j = n
      · rw [e]; exact hM
      · have h' : cnt7 M n = n := by simp at h; omega
        exact cnt7_all h' j (by omega)
    | false =>
      rw [hM] at h
      simp at h
      omega
theorem cnt7_add {M : Nat → Bool} {v : Nat} (hv : M v = false) : ∀ n, cnt7 (fun j => decide (j = v) || M j) n = cnt7 M n + (if v < n then 1 else 0)
  | 0 => rfl
  | n + 1 => by
    have ih := cnt7_add hv n
    rw [cnt7, cnt7, ih]
    rcases Nat.lt_trichotomy v n with h | h | h
    · rw [if_pos h, if_pos (by omega : v < n + 1), decide_eq_false (by omega : ¬ n = v), Bool.false_or]
      omega
    · subst h
      rw [if_neg (by omega), if_pos (by omega : v < v + 1), hv]
      simp
    · rw [if_neg (by omega), if_neg (by omega : ¬ v < n + 1), decide_eq_false (by omega : ¬ n = v), Bool.false_or]
      omega
theorem cnt7_low : ∀ n, 256 ≤ n → cnt7 (fun j => decide (j < 256)) n = 256 := by
  have h1 : ∀ k, k ≤ 256 → cnt7 (fun j => decide (j < 256)) k = k := by
    intro k
    induction k with
    | zero => intro _; rfl
    | succ k ih =>
      intro hk
      rw [cnt7, ih (by omega), decide_eq_true (by omega : k < 256)]
      rfl
  intro n hn
  induction n with
  | zero => omega
  | succ n ih =>
    by_cases e : n + 1 = 256
    · rw [e]; exact h1 256 (Nat.le_refl _)
    · rw [cnt7, ih (by omega), decide_eq_false (by omega : ¬ n < 256)]
      rfl
theorem unlike_inj {ws : List ByteArray} (h : unlikeF ws = true) : ∀ i j, i < j → j < ws.length → ws.getD i ⟨#[]⟩ ≠ ws.getD j ⟨#[]⟩ := by
  have hd : dcn ws ws.length = ws.length := by
    unfold unlikeF at h
    have : (dcn ws ws.length : Int) = (ws.length : Int) := by simpa using h
    omega
  have hk : ∀ n, dcn ws n = n → ∀ k, k < n → memB (ws.take k) (ws.getD k ⟨#[]⟩) = false := by
    intro n
    induction n with
    | zero => intro _ k hk; omega
    | succ n ih =>
      intro e k hk
      have hle := dcn_le ws n
      rw [dcn] at e
      by_cases hm : memB (ws.take n) (ws.getD n ⟨#[]⟩) = true
      · rw [if_pos hm] at e
        omega
      · rw [if_neg hm] at e
        by_cases e2 : k = n
        · rw [e2]; simpa using hm
        · exact ih (by omega) k (by omega)
  intro i j hij hj he
  have h1 := hk _ hd j hj
  unfold memB at h1
  rw [List.any_eq_false] at h1
  refine h1 (ws.getD i ⟨#[]⟩) ?_ (decide_eq_true he.symm)
  have hi : i < ws.length := by omega
  have : (ws.take j)[i]? = some (ws.getD i ⟨#[]⟩) := by
    rw [List.getElem?_take_of_lt hij, List.getElem?_eq_getElem hi]
    simp [List.getD, List.getElem?_eq_getElem hi]
  exact List.mem_of_getElem? this
theorem pre_tl {s p : ByteArray} (h : preB s p = true) : tl p = (tl s).take p.size ∧ p.size ≤ s.size := by
  unfold preB at h
  simp only [Bool.and_eq_true, decide_eq_true_eq] at h
  refine ⟨?_, h.1⟩
  have h2 := h.2
  rw [toList_tl, toList_tl] at h2
  have h3 : tl (s.extract 0 p.size) = tl p := by simpa using h2
  rw [← h3, tl_extract]
  simp
theorem cutOk_tl {ws : List ByteArray} {x : Mg} (h : cutOk ws x = true) : tl (wordF ws x.i.toNat) = tl (wordF ws x.l.toNat) ++ tl (wordF ws x.r.toNat) := by
  unfold cutOk cutP at h
  by_cases hp : preB (wordF ws x.i.toNat) (wordF ws x.l.toNat) = true
  · rw [if_pos hp] at h
    simp only [Bool.true_and] at h
    obtain ⟨h1, h2⟩ := pre_tl hp
    rw [toList_tl, toList_tl] at h
    have h3 : tl ((wordF ws x.i.toNat).extract (wordF ws x.l.toNat).size (wordF ws x.i.toNat).size) = tl (wordF ws x.r.toNat) := by simpa using h
    rw [← h3, tl_rest, h1, List.take_append_drop]
  · rw [if_neg hp] at h
    simp at h
/-- What is known when some merges are read: marks M. -/
structure Mean (ws : List ByteArray) (n : Nat) (M : Nat → Bool) (pre : List Mg) (d : MD) : Prop where
  len : d.W.length = n
  row : ∀ j, j < n → d.W.getD j [] = if M (256 + j) then tl (ws.getD j ⟨#[]⟩) else []
  two : ∀ id, 256 ≤ id → M id = true → 2 ≤ (tl (wordF ws id)).length ∧ id < 256 + n
  low : ∀ id, id < 256 → M id = true
  mem : ∀ id, 256 ≤ id → M id = true → (tl (wordF ws id), id) ∈ d.made
  src : ∀ e ∈ d.made, 256 ≤ e.2 ∧ e.2 < 256 + n ∧ e.1 = tl (wordF ws e.2)
  mg : d.M = pre
theorem word_hi {ws : List ByteArray} {id : Nat} (h : 256 ≤ id) : wordF ws id = ws.getD (id - 256) ⟨#[]⟩ := by
  unfold wordF
  rw [if_neg (by omega)]
theorem idOf_ok {ws : List ByteArray} {n : Nat} {M : Nat → Bool} {pre : List Mg} {d : MD} (h : Mean ws n M pre d) (hn : ws.length = n) (hu : unlikeF ws = true) {id : Nat} (hM : M id = true) : idOfP d.made (tl (wordF ws id)) = some id := by
  by_cases hlo : id < 256
  · have e : tl (wordF ws id) = [UInt8.ofNat id] := by unfold wordF; rw [if_pos hlo]
    rw [e]
    show some (UInt8.ofNat id).toNat = some id
    rw [UInt8.toNat_ofNat', Nat.mod_eq_of_lt (by omega)]
  · obtain ⟨h2, h3⟩ := h.two id (by omega) hM
    have hm := h.mem id (by omega) hM
    have e : idOfP d.made (tl (wordF ws id)) = (d.made.find? fun x => x.1 == tl (wordF ws id)).map (·.2) := by
      unfold idOfP
      split
      · rename_i c hc
        rw [hc] at h2
        simp at h2
      · rfl
    rw [e]
    cases hf : d.made.find? fun x => x.1 == tl (wordF ws id) with
    | none =>
      rw [List.find?_eq_none] at hf
      exact absurd (by simp) (hf _ hm)
    | some y =>
      have hy := List.find?_some hf
      have hyl := List.mem_of_find?_eq_some hf
      obtain ⟨y1, y2, y3⟩ := h.src y hyl
      have hy' : y.1 = tl (wordF ws id) := by simpa using hy
      rw [y3] at hy'
      have hw := tl_inj hy'
      rw [word_hi y1, word_hi (by omega)] at hw
      rcases Nat.lt_trichotomy (y.2 - 256) (id - 256) with h4 | h4 | h4
      · exact absurd hw (unlike_inj hu _ _ h4 (by omega))
      · show some y.2 = some id
        congr 1
        omega
      · exact absurd hw.symm (unlike_inj hu _ _ h4 (by omega))
theorem made_len {ws : List ByteArray} {n : Nat} {M : Nat → Bool} {pre : List Mg} {d : MD} (h : Mean ws n M pre d) {id : Nat} (hM : M id = true) : 1 ≤ (tl (wordF ws id)).length := by
  by_cases hlo : id < 256
  · unfold wordF
    rw [if_pos hlo]
    simp
  · have := (h.two id (by omega) hM).1
    omega
theorem isMadeF_nat {n : Nat} {M : Nat → Bool} {i : Int} (h : isMadeF n M i = true) : ∃ k : Nat, i = k ∧ k < n ∧ M k = true := by
  unfold isMadeF at h
  simp only [Bool.and_eq_true, decide_eq_true_eq] at h
  exact ⟨i.toNat, by omega, by omega, h.2⟩
theorem newId_nat {n : Nat} {M : Nat → Bool} {i : Int} (h : newId n M i = true) : ∃ k : Nat, i = k ∧ k < n ∧ M k = false := by
  unfold newId at h
  simp only [Bool.and_eq_true, decide_eq_true_eq, Bool.not_eq_true'] at h
  exact ⟨i.toNat, by omega, by omega, h.2⟩
/-- The words of a merge, as they are written. -/
def mgX (ws : List ByteArray) (x : Mg) (y : List UInt8 × List UInt8 × List UInt8) : Prop := y.1 = tl (wordF ws x.l.toNat) ∧ y.2.1 = tl (wordF ws x.r.toNat) ∧ ((valF 10 0 y.2.2 : Nat) : Int) = x.i
theorem mean_ok {ws : List ByteArray} {n : Nat} (hn : ws.length = n) (hu : unlikeF ws = true) : ∀ (ms : List Mg) (M : Nat → Bool) (pre : List Mg) (d : MD) (L : List Wr), Mean ws n M pre d → madeF ws (256 + n) ms M = true → L.length = ms.length → (∀ (i : Nat) (x : Mg) (y : Wr), ms[i]? = some x → L[i]? = some y → mgX ws x (wrX y)) →
    ∃ d' M', meanF L d = .ok d' ∧ Mean ws n M' (pre ++ ms) d' ∧ cnt7 M' (256 + n) = cnt7 M (256 + n) + ms.length
  | [], M, pre, d, L, h, _, hl, _ => by
    have : L = [] := List.length_eq_zero_iff.1 hl
    subst this
    exact ⟨d, M, rfl, by rw [List.append_nil]; exact h, rfl⟩
  | x :: ms, M, pre, d, L, h, hm, hl, hx => by
    cases L with
    | nil => simp at hl
    | cons y L =>
      rw [madeF_cons] at hm
      by_cases hc : newId (256 + n) M x.i = true ∧ isMadeF (256 + n) M x.l = true ∧ isMadeF (256 + n) M x.r = true ∧ cutOk ws x = true
      · rw [if_pos hc] at hm
        obtain ⟨c1, c2, c3, c4⟩ := hc
        obtain ⟨v, hv, hvn, hMv⟩ := newId_nat c1
        obtain ⟨a, ha, han, hMa⟩ := isMadeF_nat c2
        obtain ⟨b, hb, hbn, hMb⟩ := isMadeF_nat c3
        have hw := cutOk_tl c4
        obtain ⟨xl, xr, xi⟩ := x
        simp only at hv ha hb
        subst hv ha hb
        simp only [Int.toNat_natCast] at hm hw
        obtain ⟨y1, y2, y3⟩ := hx 0 _ y rfl rfl
        simp only [Int.toNat_natCast, wrX] at y1 y2 y3
        have hv256 : 256 ≤ v := by
          by_cases hh : v < 256
          · rw [h.low v hh] at hMv; cases hMv
          · omega
        have la := made_len h hMa
        have lb := made_len h hMb
        have hrow : d.W.getD (v - 256) [] = [] := by
          rw [h.row (v - 256) (by omega), show 256 + (v - 256) = v by omega, hMv]
          simp
        have hval : valF 10 0 y.i.s = v := by omega
        have hstep : meanP y d = .ok ⟨d.W.set (v - 256) (y.l.s ++ y.r.s), (y.l.s ++ y.r.s, v) :: d.made, d.M ++ [⟨a, b, v⟩]⟩ := by
          unfold meanP
          rw [y1, idOf_ok h hn hu hMa, y2]
          simp only
          rw [idOf_ok h hn hu hMb]
          simp only [hval]
          rw [if_neg (by rw [h.len, hrow]; simp; omega)]
        have hwv : y.l.s ++ y.r.s = tl (wordF ws v) := by rw [y1, y2, hw]
        rw [hwv] at hstep
        have hnew : Mean ws n (fun j => decide (j = v) || M j) (pre ++ [⟨a, b, v⟩]) ⟨d.W.set (v - 256) (tl (wordF ws v)), (tl (wordF ws v), v) :: d.made, d.M ++ [⟨a, b, v⟩]⟩ := by
          refine ⟨by simp [h.len], fun j hj => ?_, fun id h1 h2 => ?_, fun id h1 => by simp [h.low id h1], fun id h1 h2 => ?_, fun e he => ?_, by rw [h.mg]⟩
          · show (d.W.set (v - 256) (tl (wordF ws v))).getD j [] = _
            by_cases e : j = v - 256
            · subst e
              rw [List.getD, List.getElem?_set_self (by rw [h.len]; omega)]
              have e2 : 256 + (v - 256) = v := by omega
              rw [e2]
              simp [word_hi hv256]
            · rw [List.getD, List.getElem?_set_ne (by omega)]
              have := h.row j hj
              rw [List.getD] at this
              rw [this, decide_eq_false (by omega : ¬ 256 + j = v)]
              rfl
          · by_cases e : id = v
            · subst e
              refine ⟨?_, hvn⟩
              rw [hw, List.length_append]
              omega
            · exact h.two id h1 (by simpa [e] using h2)
          · by_cases e : id = v
            · subst e
              exact List.mem_cons_self
            · exact List.mem_cons_of_mem _ (h.mem id h1 (by simpa [e] using h2))
          · rcases List.mem_cons.1 he with rfl | he
            · exact ⟨hv256, hvn, rfl⟩
            · exact h.src e he
        obtain ⟨d', M', h1, h2, h3⟩ := mean_ok hn hu ms _ _ _ L hnew hm (by simpa using hl) (fun i x' y' hx' hy' => hx (i + 1) x' y' (by simpa using hx') (by simpa using hy'))
        refine ⟨d', M', ?_, by rw [List.append_cons]; exact h2, ?_⟩
        · rw [meanF, hstep]
          exact h1
        · rw [h3, cnt7_add hMv, if_pos hvn, List.length_cons]
          omega
      · rw [if_neg hc] at hm
        cases hm
/-- All that was printed is read. -/
theorem mean_all {ws : List ByteArray} {ms : List Mg} {L : List Wr} (hl : ws.length = ms.length) (hu : unlikeF ws = true) (hm : madeF ws (256 + ms.length) ms (fun j => decide (j < 256)) = true) (hL : L.length = ms.length) (hx : ∀ (i : Nat) (x : Mg) (y : Wr), ms[i]? = some x → L[i]? = some y → mgX ws x (wrX y)) :
    ∃ d', meanF L ⟨List.replicate L.length [], [], []⟩ = .ok d' ∧ d'.W = ws.map (fun w => tl w) ∧ d'.M = ms := by
  have h0 : Mean ws ms.length (fun j => decide (j < 256)) [] ⟨List.replicate L.length [], [], []⟩ := by
    refine ⟨by simp [hL], fun j hj => ?_, fun id h1 h2 => ?_, fun id h1 => decide_eq_true h1, fun id h1 h2 => ?_, fun e he => by simp at he, rfl⟩
    · have e : decide (256 + j < 256) = false := decide_eq_false (by omega)
      rw [e]
      simp [List.getD, List.getElem?_replicate]
      split <;> rfl
    · have := of_decide_eq_true h2
      omega
    · have := of_decide_eq_true h2
      omega
  obtain ⟨d', M', h1, h2, h3⟩ := mean_ok hl hu ms _ _ _ L h0 hm hL hx
  refine ⟨d', h1, ?_, by rw [h2.mg]; rfl⟩
  rw [cnt7_low _ (by omega)] at h3
  have hall := cnt7_all h3
  apply List.ext_getElem?
  intro j
  by_cases hj : j < ms.length
  · have hr := h2.row j hj
    rw [hall (256 + j) (by omega), if_pos rfl] at hr
    have hj2 : j < d'.W.length := by rw [h2.len]; exact hj
    have hj3 : j < ws.length := by omega
    rw [List.getElem?_eq_getElem hj2, List.getElem?_map, List.getElem?_eq_getElem hj3]
    simp only [Option.map_some, Option.some.injEq]
    simpa [List.getD, List.getElem?_eq_getElem hj2, List.getElem?_eq_getElem hj3] using hr
  · rw [List.getElem?_eq_none (by rw [h2.len]; omega), List.getElem?_eq_none (by simp; omega)]
end Go.Proofs.YtonbfcpbgkpbaaaDoor
end
