/- tesseraref5.Word, made, Longest; tesserakeep.Large; model.longest, isMade: their contracts. -/
import Derived.Test.YtlnebbciefdpoaaDoorMWord
namespace Go.Proofs.YtlnebbciefdpoaaDoor
open Go.RowKit Go.Sort Go.Joins
/-- A block that holds data. -/
def DBox (w : World) (z : Nat) (v0 v1 v2 v3 v4 : Value) : Prop := w.heap[z]? = some (.cells #[v0, v1, v2, v3, v4] 42 (0, 0))
theorem DBox.new (w : World) (v0 v1 v2 v3 v4 : Value) : DBox (w.alloc (.cells #[v0, v1, v2, v3, v4] 42)) w.heap.size v0 v1 v2 v3 v4 := heap_alloc_new _ _
theorem DBox.lt {w : World} {z : Nat} {v0 v1 v2 v3 v4 : Value} (h : DBox w z v0 v1 v2 v3 v4) : z < w.heap.size := (Array.getElem?_eq_some_iff.1 h).1
theorem DBox.below {w w' : World} {z B : Nat} {v0 v1 v2 v3 v4 : Value} (h : DBox w z v0 v1 v2 v3 v4) (hb : Below B w w') (hz : z < B) : DBox w' z v0 v1 v2 v3 v4 := (hb.block z hz).trans h
theorem DBox.c0 {w : World} {z : Nat} {v0 v1 v2 v3 v4 : Value} (h : DBox w z v0 v1 v2 v3 v4) : w.cell? ⟨z, 0, none⟩ = some v0 := cell_of_block h 0
theorem DBox.c1 {w : World} {z : Nat} {v0 v1 v2 v3 v4 : Value} (h : DBox w z v0 v1 v2 v3 v4) : w.cell? ⟨z, 1, none⟩ = some v1 := cell_of_block h 1
theorem DBox.c2 {w : World} {z : Nat} {v0 v1 v2 v3 v4 : Value} (h : DBox w z v0 v1 v2 v3 v4) : w.cell? ⟨z, 2, none⟩ = some v2 := cell_of_block h 2
theorem DBox.c3 {w : World} {z : Nat} {v0 v1 v2 v3 v4 : Value} (h : DBox w z v0 v1 v2 v3 v4) : w.cell? ⟨z, 3, none⟩ = some v3 := cell_of_block h 3
theorem DBox.c4 {w : World} {z : Nat} {v0 v1 v2 v3 v4 : Value} (h : DBox w z v0 v1 v2 v3 v4) : w.cell? ⟨z, 4, none⟩ = some v4 := cell_of_block h 4
theorem box_below (w : World) (o : Obj) : Below w.heap.size w (w.alloc o) := (Below.refl _ _).alloc (Nat.le_refl _) _
set_option maxRecDepth 100000 in
set_option maxHeartbeats 1000000 in
theorem refWord_any (aw am a b c : Option Addr) (cw nm cm na ca nb cb nc cc : Nat) (ws : List ByteArray) (id : Int) (hid : -9223372036854775808 ≤ id ∧ id ≤ 9223372036854775807) (w : World) (hn : ws.length ≤ 4611686018427387904) (hW : WSP w aw ws) :
    Calls Tryd.prog 18 #[.agg #[.slice aw ws.length cw, .slice am nm cm, .slice a na ca, .slice b nb cb, .slice c nc cc], .int .i64 id] w fun e w' => e = .returned (wdV (wordM ws id)) ∧ Below w.heap.size w w' := by
  have hD := DBox.new w (.slice aw ws.length cw) (.slice am nm cm) (.slice a na ca) (.slice b nb cb) (.slice c nc cc)
  have hb := box_below w (.cells #[.slice aw ws.length cw, .slice am nm cm, .slice a na ca, .slice b nb cb, .slice c nc cc] 42)
  have x0 := hD.c0
  by_cases h0 : 0 ≤ id ∧ id < 256
  · have e : wordM ws id = some (byteS id) := by unfold wordM; rw [if_pos (by omega)]
    rw [e]
    have hcv := byte_text (w.alloc (.cells #[.slice aw ws.length cw, .slice am nm cm, .slice a na ca, .slice b nb cb, .slice c nc cc] 42)) id
    rw [show (w.alloc (.cells #[.slice aw ws.length cw, .slice am nm cm, .slice a na ca, .slice b nb cb, .slice c nc cc] 42)).heap.size = w.heap.size + 1 by simp] at hcv
    have hd1 : decide (0 ≤ id) = true := decide_eq_true h0.1
    have hd2 : decide (id < 256) = true := decide_eq_true h0.2
    clear hD x0
    go_enter Tryd.func18, Tryd.ntmps18
    go_wp2_with fail
    exact bodyPost_ret (v := .tuple #[.string (byteS id), .bool true]) (by simp [results, Tryd.results18, go_sem]) rfl ⟨rfl, hb.alloc hb.size _⟩
  · have hd : (decide (0 ≤ id) && decide (id < 256)) = false := by simp; omega
    by_cases h1 : 256 ≤ id ∧ id - 256 < ws.length
    · obtain ⟨k, hk⟩ : ∃ k : Nat, id = 256 + k := ⟨(id - 256).toNat, by omega⟩
      subst hk
      have hkl : k < ws.length := by omega
      obtain ⟨x, hx⟩ : ∃ x, ws[k]? = some x := ⟨_, List.getElem?_eq_getElem hkl⟩
      have e : wordM ws (256 + k) = some x := by rw [wordM_in (by omega), show (256 + (k : Int) - 256).toNat = k by omega, hx]
      rw [e]
      have g1 : decide (0 ≤ 256 + (k : Int)) = true := decide_eq_true (by omega)
      have g2 : decide (256 + (k : Int) < 256) = false := decide_eq_false (by omega)
      have g3 : decide (256 ≤ 256 + (k : Int)) = true := decide_eq_true (by omega)
      have g4 : decide ((k : Int) < (ws.length : Int)) = true := decide_eq_true (by omega)
      obtain ⟨bw, off, rfl, hc⟩ := (hW.below hb).at_ hx
      clear hd h0 hD
      go_enter Tryd.func18, Tryd.ntmps18
      go_wp2_with fail
      exact bodyPost_ret (v := .tuple #[.string x, .bool true]) (by simp [results, Tryd.results18, go_sem]) rfl ⟨rfl, hb⟩
    · have e : wordM ws id = none := by
        unfold wordM
        rw [if_neg h0]
        split
        · rw [List.getElem?_eq_none (by omega)]
        · rfl
      rw [e]
      by_cases h2 : id < 0
      · have g1 : decide (0 ≤ id) = false := decide_eq_false (by omega)
        have g3 : decide (256 ≤ id) = false := decide_eq_false (by omega)
        clear hd h0 hD h1
        go_enter Tryd.func18, Tryd.ntmps18
        go_wp2_with fail
        exact bodyPost_ret (v := .tuple #[.string ⟨#[]⟩, .bool false]) (by simp [results, Tryd.results18, go_sem]) rfl ⟨rfl, hb⟩
      · have g1 : decide (0 ≤ id) = true := decide_eq_true (by omega)
        have g2 : decide (id < 256) = false := decide_eq_false (by omega)
        have g3 : decide (256 ≤ id) = true := decide_eq_true (by omega)
        have g4 : decide (id - 256 < (ws.length : Int)) = false := decide_eq_false (by omega)
        clear hd h0 hD h1
        go_enter Tryd.func18, Tryd.ntmps18
        go_wp2_with fail
        exact bodyPost_ret (v := .tuple #[.string ⟨#[]⟩, .bool false]) (by simp [results, Tryd.results18, go_sem]) rfl ⟨rfl, hb⟩
set_option maxRecDepth 100000 in
set_option maxHeartbeats 1000000 in
theorem refLongest_any (aw am a b c : Option Addr) (cw nm cm na ca nb cb nc cc : Nat) (ws : List ByteArray) (w : World) (hn : ws.length ≤ 4611686018427387904) (hW : WSP w aw ws) :
    Calls Tryd.prog 21 #[.agg #[.slice aw ws.length cw, .slice am nm cm, .slice a na ca, .slice b nb cb, .slice c nc cc]] w fun e w' => e = .returned (.int .i64 (longM ws : Nat)) ∧ Below w.heap.size w w' := by
  have hD := DBox.new w (.slice aw ws.length cw) (.slice am nm cm) (.slice a na ca) (.slice b nb cb) (.slice c nc cc)
  have hb := box_below w (.cells #[.slice aw ws.length cw, .slice am nm cm, .slice a na ca, .slice b nb cb, .slice c nc cc] 42)
  have x0 := hD.c0
  have hW' := hW.below hb
  clear hD hW
  obtain ⟨Y, hY⟩ : ∃ Y, Y = w.alloc (.cells #[.slice aw ws.length cw, .slice am nm cm, .slice a na ca, .slice b nb cb, .slice c nc cc] 42) := ⟨_, rfl⟩
  go_enter Tryd.func21, Tryd.ntmps21
  go_wp2_with fail
  rw [← hY] at hb x0 hW' ⊢
  clear hY
  obtain ⟨z, hz⟩ : ∃ z, z = w.heap.size := ⟨_, rfl⟩
  have HZ : Hid (z = w.heap.size) := hz
  rw [← hz] at x0 ⊢
  clear hz
  go_loopw [3, 4] (fun m i wr => ∃ k : Nat, k ≤ ws.length ∧ i = .int .i64 k ∧ m = .int .i64 (longM (ws.take k) : Nat) ∧ wr = Y) (fun _ i _ => ws.length - (intOf i).toNat)
  case atStart => exact ⟨0, Nat.zero_le _, rfl, by simp [longM], rfl⟩
  case round =>
    obtain ⟨k, hk, rfl, rfl, he⟩ := hrel
    obtain rfl := he.symm
    by_cases hlt : k < ws.length
    · obtain ⟨x, hx⟩ : ∃ x, ws[k]? = some x := ⟨_, List.getElem?_eq_getElem hlt⟩
      have hs := longM_step ws k x hx
      have g0 : decide ((k : Int) < (ws.length : Int)) = true := decide_eq_true (by omega)
      obtain ⟨L, hL⟩ : ∃ L, L = longM (ws.take k) := ⟨_, rfl⟩
      rw [← hL] at hs ⊢
      have HS : Hid (longM (ws.take (k + 1)) = if L < x.size then x.size else L) := hs
      obtain ⟨bw, off, rfl, hc⟩ := hW'.at_ hx
      clear hs hL hW'
      by_cases hlx : L < x.size
      · have g1 : decide ((L : Int) < (x.size : Int)) = true := decide_eq_true (by omega)
        go_wp2_with fail
        refine ⟨⟨k + 1, by omega, by go_num, ?_, trivial⟩, by simp only [intOf]; omega⟩
        rw [HS.out, if_pos hlx]
      · have g1 : decide ((L : Int) < (x.size : Int)) = false := decide_eq_false (by omega)
        go_wp2_with fail
        refine ⟨⟨k + 1, by omega, by go_num, ?_, trivial⟩, by simp only [intOf]; omega⟩
        rw [HS.out, if_neg hlx]
    · have hkn : k = ws.length := by omega
      subst hkn
      rw [List.take_length]
      clear hW'
      go_wp2_with fail
      go_ret
      exact ⟨rfl, hb⟩
set_option maxRecDepth 100000 in
set_option maxHeartbeats 1000000 in
theorem refMade_any (aw am a b c : Option Addr) (nw cw cm na ca nb cb nc cc : Nat) (ms : List Mg) (n : Nat) (id : Int) (w : World) (hn : n ≤ ms.length) (hl : ms.length ≤ 9223372036854775807) (hM : MSP w am ms) :
    Calls Tryd.prog 70 #[.agg #[.slice aw nw cw, .slice am ms.length cm, .slice a na ca, .slice b nb cb, .slice c nc cc], .int .i64 n, .int .i64 id] w fun e w' => e = .returned (.bool (madeM ms n id)) ∧ Below w.heap.size w w' := by
  have hD := DBox.new w (.slice aw nw cw) (.slice am ms.length cm) (.slice a na ca) (.slice b nb cb) (.slice c nc cc)
  have hb := box_below w (.cells #[.slice aw nw cw, .slice am ms.length cm, .slice a na ca, .slice b nb cb, .slice c nc cc] 42)
  have x1 := hD.c1
  have hM' := hM.below hb
  clear hD hM
  by_cases h0 : 0 ≤ id ∧ id < 256
  · have hd1 : decide (0 ≤ id) = true := decide_eq_true h0.1
    have hd2 : decide (id < 256) = true := decide_eq_true h0.2
    have e : madeM ms n id = true := by unfold madeM; rw [hd1, hd2]; rfl
    rw [e]
    clear e
    go_enter Tryd.func70, Tryd.ntmps70
    go_wp2_with fail
    go_ret
    exact ⟨rfl, hb⟩
  · have hm : madeM ms n id = (decide (256 ≤ id) && (ms.take n).any fun x => x.i == id) := by
      unfold madeM
      rw [show (decide (0 ≤ id) && decide (id < 256)) = false by simp; omega, Bool.false_or]
    obtain ⟨Y, hY⟩ : ∃ Y, Y = w.alloc (.cells #[.slice aw nw cw, .slice am ms.length cm, .slice a na ca, .slice b nb cb, .slice c nc cc] 42) := ⟨_, rfl⟩
    have HM : Hid (madeM ms n id = (decide (256 ≤ id) && (ms.take n).any fun x => x.i == id)) := hm
    obtain ⟨R, hR⟩ : ∃ R, R = madeM ms n id := ⟨_, rfl⟩
    rw [← hR] at HM ⊢
    have hp : (∃ g1 : decide (0 ≤ id) = true, decide (id < 256) = false) ∨ decide (0 ≤ id) = false := by
      by_cases h2 : id < 0
      · exact .inr (decide_eq_false (by omega))
      · exact .inl ⟨decide_eq_true (by omega), decide_eq_false (by omega)⟩
    clear hm hR h0
    go_enter Tryd.func70, Tryd.ntmps70
    rcases hp with ⟨g1, g2⟩ | g1
    all_goals
      go_wp2_with fail
      rw [← hY] at hb x1 hM' ⊢
      clear hY
      try clear g2
      clear g1
      obtain ⟨z, hz⟩ : ∃ z, z = w.heap.size := ⟨_, rfl⟩
      have HZ : Hid (z = w.heap.size) := hz
      rw [← hz] at x1 ⊢
      clear hz
      go_loopw [7] (fun i wr => ∃ k : Nat, k ≤ n ∧ i = .int .i64 k ∧ ((ms.take k).any fun x => x.i == id) = false ∧ wr = Y) (fun i _ => n - (intOf i).toNat)
      case atStart => exact ⟨0, Nat.zero_le _, rfl, by simp, rfl⟩
      case round =>
        obtain ⟨k, hk, rfl, hno, he⟩ := hrel
        obtain rfl := he.symm
        have HNO : Hid (((ms.take k).any fun x => x.i == id) = false) := hno
        clear hno
        by_cases hlt : k < n
        · obtain ⟨x, hx⟩ : ∃ x, ms[k]? = some x := ⟨_, List.getElem?_eq_getElem (by omega)⟩
          have g0 : decide ((k : Int) < (n : Int)) = true := decide_eq_true (by omega)
          have HX : Hid (ms[k]? = some x) := hx
          obtain ⟨bw, off, rfl, -, -, hc⟩ := hM'.at_ hx
          clear hx hM'
          by_cases hxi : x.i = id
          · have g1 : (x.i == id) = true := by simpa using hxi
            go_wp2_with fail
            go_ret
            refine ⟨?_, hb⟩
            have e1 : ((ms.take n).any fun x => x.i == id) = true := by
              rw [List.any_eq_true]
              refine ⟨x, ?_, by simpa using hxi⟩
              rw [List.mem_iff_getElem?]
              exact ⟨k, by rw [List.getElem?_take_of_lt hlt]; exact HX.out⟩
            have e : R = decide (256 ≤ id) := by rw [HM.out, e1, Bool.and_true]
            rw [e]
            rfl
          · have g1 : (x.i == id) = false := by simpa using hxi
            go_wp2_with fail
            refine ⟨⟨k + 1, by omega, by go_num, ?_, trivial⟩, by simp only [intOf]; omega⟩
            rw [List.take_add_one, HX.out, List.any_append, HNO.out]
            simpa using hxi
        · have hkn : k = n := by omega
          subst hkn
          clear hM'
          go_wp2_with fail
          go_ret
          refine ⟨?_, hb⟩
          have e : R = false := by rw [HM.out, HNO.out, Bool.and_false]
          rw [e]
          rfl
end Go.Proofs.YtlnebbciefdpoaaDoor
