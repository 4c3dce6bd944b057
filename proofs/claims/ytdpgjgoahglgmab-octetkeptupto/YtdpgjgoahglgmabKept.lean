/- OctetKept: the walk. -/
import Derived.Test.YtdpgjgoahglgmabKnown
import Derived.Test.YtdpgjgoahglgmabPut
import Derived.Test.YtdpgjgoahglgmabBookApartWalk
namespace Go.Proofs.Ytdpgjgoahglgmab
open Go.RowKit
open Go.Joins
theorem BookInv.over {wx w1 : World} {base B : Nat} {vl vw : Value} {es : List Ent} {held : Int} (h : BookInv wx base B vl vw es held) (hb : Below wx.heap.size wx w1) : BookInv w1 base B vl vw es held :=
  h.move ((Only.ofBelow (S := fun k => k = B) hb)) (h.at_.kept (hb.block B h.at_.lt))
theorem BookInv.fresh {wx w1 : World} {base B : Nat} {vl vw : Value} {es : List Ent} {held : Int} (h : BookInv wx base B vl vw es held) {v : Value} {L : List UInt8} (hv : OwnS w1 wx.heap.size v L) : ∀ e ∈ es, ∀ g, e.v.ownBlock = some g → v.ownBlock ≠ some g := by
  intro e he g hg hg'
  obtain ⟨_, cur, hc⟩ := (h.ents e he).1.block hg
  have := (hv.block hg').1
  have := (Array.getElem?_eq_some_iff.1 hc).1
  omega
theorem KeepPost.use {w w' : World} {base B : Nat} {vl vw v : Value} {es : List Ent} {l : List UInt8} {held : Int} (h : KeepPost w base B vl vw es v l w') (hI : BookInv w base B vl vw es held) (hB : base ≤ B) (hb : base ≤ w.heap.size) :
    ∃ vl' vw' es' held', 0 < es'.length ∧ es'.length ≤ es.length + 1 ∧ BookInv w' base B vl' vw' es' held' ∧ Below base w w' := by
  obtain ⟨vl', vw', es', held', u, h1, h2, h3, h4⟩ := h
  refine ⟨vl', vw', es', held', h1, by have := h2.length_le; simpa using this, h3, h4.only.below (fun i hi => ?_) hb⟩
  rcases hi with rfl | hi | hi
  · exact hB
  · exact (hI.lists.lt i hi).1
  · exact (hI.was.lt i hi).1
theorem book_new (w : World) : BookInv (w.alloc (.cells #[.slice none 0 0, .slice none 0 0, .int .i64 0, .bool false] 26)) w.heap.size w.heap.size (.slice none 0 0) (.slice none 0 0) [] 0 :=
  ⟨heap_alloc_new w _, SRow.nil _ _, SRow.nil _ _, fun e he => (by simp at he), fun g hg => (by cases hg), List.Pairwise.nil⟩
set_option maxRecDepth 100000 in
set_option maxHeartbeats 4000000 in
theorem kept_walk (a : Option Addr) (cap : Nat) (l : List UInt8) (n : Nat) (hn : n < 4294967296) (s : ByteArray) (w : World) (hlen : l.length + s.size ≤ 1048576) (hcap : l.length ≤ cap) (h : BS w a l) :
    Calls Try.prog 3 #[.slice a l.length cap, .int .u32 n, .string s] w fun e w' => e = .returned (.bool true) ∧ Below w.heap.size w w' := by
  have H2 := fun (wx : World) (hx : BS wx a l) => put_any a cap l n hn wx (by omega) hcap hx
  have H3 := fun (wx : World) (hx : BS wx a l) => puttext_any a cap l s wx (by omega) hcap hx
  obtain ⟨X, hX⟩ : ∃ X, X = l ++ be4 n := ⟨_, rfl⟩
  obtain ⟨Y, hY⟩ : ∃ Y, Y = l ++ be4 s.size ++ s.data.toList := ⟨_, rfl⟩
  have x1 : X.length ≤ 140737488355328 := by rw [hX]; simp [be4]; omega
  have y1 : Y.length ≤ 140737488355328 := by
    have e : s.data.toList.length = s.size := Array.length_toList
    rw [hY]; simp only [List.length_append, e]; simp [be4]; omega
  rw [← hX] at H2
  rw [← hY] at H3
  clear hX hY
  have hI0 := book_new w
  have hb0 := (Below.refl w.heap.size w).alloc (Nat.le_refl _) (.cells #[.slice none 0 0, .slice none 0 0, .int .i64 0, .bool false] 26)
  have HH : Hid (BS w a l) := h
  clear h
  obtain ⟨B, hB⟩ : ∃ B, B = w.heap.size := ⟨_, rfl⟩
  have HB : Hid (B = w.heap.size) := hB
  rw [← hB] at hI0 hb0
  go_enter Try.func3, Try.ntmps3
  go_wp2_with fail
  rw [← hB]
  clear hB
  go_loopg [8] 2 (fun k i wr => ∃ (q : Nat) (vl vw : Value) (es : List Ent) (held : Int), q ≤ 2 ∧ k = 2 - q ∧ i = .int .i64 q ∧ BookInv wr B B vl vw es held ∧ es.length ≤ 2 * q ∧ (0 < q → 0 < es.length) ∧ Below B w wr)
  case atStart => exact ⟨0, _, _, [], _, by omega, rfl, rfl, hI0, by simp, by omega, hb0⟩
  case round =>
    obtain ⟨q, vl, vw, es, held, hq, rfl, rfl, hIr, hel, hpos, hbr⟩ := hrel
    have hsz : B ≤ wr.heap.size := Nat.le_of_lt hIr.at_.lt
    have h1 : BS wr a l := HH.out.below (by rw [← HB.out]; exact hbr)
    by_cases hlt : q < 2
    · go_wp2_with fail
      refine (H2 _ h1).mono ?_; rintro e1 w1 ⟨v1, rfl, hv1, hb1⟩
      obtain ⟨a1, c1, rfl⟩ := hv1.shape
      have hI1 := hIr.over hb1
      have K1 := keep_any w1 B B vl vw es held a1 c1 X hI1 (ownsRow_le hv1 hsz) (Nat.le_trans hsz hb1.size) (by omega) x1 (hIr.fresh hv1)
      go_wp2_with fail
      refine K1.mono ?_; rintro e2 w2 ⟨rfl, hp2⟩
      obtain ⟨vl2, vw2, es2, held2, hpos2, hel2, hI2, hb2⟩ := hp2.use hI1 (Nat.le_refl _) (Nat.le_trans hsz hb1.size)
      have hb2' : Below B w w2 := (hbr.trans (hb1.mono hsz)).trans hb2
      have h2 : BS w2 a l := HH.out.below (by rw [← HB.out]; exact hb2')
      have hsz2 : B ≤ w2.heap.size := Nat.le_of_lt hI2.at_.lt
      clear K1 hp2 hI1 hv1 h1 hb1 hb2
      go_wp2_with fail
      refine (H3 _ h2).mono ?_; rintro e3 w3 ⟨v3, rfl, hv3, hb3⟩
      obtain ⟨a3, c3, rfl⟩ := hv3.shape
      have hI3 := hI2.over hb3
      have K3 := keep_any w3 B B vl2 vw2 es2 held2 a3 c3 Y hI3 (ownsRow_le hv3 hsz2) (Nat.le_trans hsz2 hb3.size) (by omega) y1 (hI2.fresh hv3)
      go_wp2_with fail
      refine K3.mono ?_; rintro e4 w4 ⟨rfl, hp4⟩
      obtain ⟨vl4, vw4, es4, held4, hpos4, hel4, hI4, hb4⟩ := hp4.use hI3 (Nat.le_refl _) (Nat.le_trans hsz2 hb3.size)
      have hb4' : Below B w w4 := (hb2'.trans (hb3.mono hsz2)).trans hb4
      clear K3 hp4 hI3 hv3 h2 hb3 hb4 hI2 hb2'
      go_wp2_with fail
      go_roundg (2 - (q + 1))
      case measure => omega
      case rel => exact ⟨q + 1, _, _, es4, _, by omega, rfl, by go_num, hI4, by omega, fun _ => hpos4, hb4'⟩
    · have A1 := apart_any wr B B vl vw es held hIr (hpos (by omega)) (by omega) hsz (Nat.le_refl _)
      clear h1
      go_wp2_with fail
      refine A1.mono ?_; rintro e1 w1 ⟨rfl, hb1⟩
      go_wp2_with fail
      refine (known_any _).mono ?_; rintro e2 w2 ⟨rfl, hb2⟩
      go_wp2_with fail
      go_ret
      refine ⟨rfl, ?_⟩
      rw [← HB.out]
      exact (hbr.trans hb1).trans (hb2.mono (Nat.le_trans hsz hb1.size))
end Go.Proofs.Ytdpgjgoahglgmab
