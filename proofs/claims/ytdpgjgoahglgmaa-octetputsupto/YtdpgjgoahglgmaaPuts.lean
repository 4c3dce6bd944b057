/- OctetPuts: the walk. -/
import Derived.Test.YtdpgjgoahglgmaaKnown
import Derived.Test.YtdpgjgoahglgmaaPut
import Derived.Test.YtdpgjgoahglgmaaIntact
namespace Go.Proofs.Ytdpgjgoahglgmaa
open Go.RowKit
set_option maxHeartbeats 1600000 in
theorem puts_walk (a : Option Addr) (cap : Nat) (l : List UInt8) (n : Nat) (hn : n < 4294967296) (s : ByteArray) (w : World) (hlen : l.length + s.size ≤ 1048576) (hcap : l.length ≤ cap) (h : BS w a l) (hnil : a = none → cap = 0) :
    Calls Try.prog 4 #[.slice a l.length cap, .int .u32 n, .string s] w fun e w' => e = .returned (.bool true) ∧ Below w.heap.size w w' := by
  have H1 := roomy_any a cap l 165 w (by omega) h
  have H2 := fun (wx : World) (hx : BS wx (some ⟨w.heap.size, 0, none⟩) l) => put_any (some ⟨w.heap.size, 0, none⟩) (l.length + 80) l n hn wx (by omega) (by omega) hx
  have H3 := fun (wx : World) (hx : BS wx (some ⟨w.heap.size, 0, none⟩) l) => puttext_any (some ⟨w.heap.size, 0, none⟩) (l.length + 80) l s wx (by omega) (by omega) hx
  have H4 := fun (wx : World) (hx : BS wx a l) => refput_any a cap l n hn wx (by omega) hcap hx hnil
  have H5 := fun (wx : World) (hx : BS wx a l) => refputtext_any a cap l s wx (by omega) hcap hx hnil
  have H6 := fun (wx : World) (hf : Own wx w.heap.size (cellsOf (fillB l 165 80))) (hx : BS wx a l) => intact_any w.heap.size a cap l 165 wx (by omega) hf hx
  rw [show ((165 : UInt8).toNat : Int) = 165 from rfl] at H1 H6
  obtain ⟨X, hX⟩ : ∃ X, X = l ++ be4 n := ⟨_, rfl⟩
  obtain ⟨Y, hY⟩ : ∃ Y, Y = l ++ be4 s.size ++ s.data.toList := ⟨_, rfl⟩
  have x0 : 0 < X.length := by rw [hX]; simp [be4]
  have y0 : 0 < Y.length := by rw [hY]; simp [be4]; omega
  have x1 : X.length ≤ 9223372036854775807 := by rw [hX]; simp [be4]; omega
  have y1 : Y.length ≤ 9223372036854775807 := by
    have e : s.data.toList.length = s.size := Array.length_toList
    rw [hY]; simp only [List.length_append, e]; simp [be4]; omega
  rw [← hX] at H2 H4
  rw [← hY] at H3 H5
  clear hX hY
  go_enter Try.func4, Try.ntmps4
  go_wp2_with fail
  refine H1.mono ?_; rintro e w1 ⟨rfl, hb1, ho1, hs1⟩
  have h1 := h.below hb1
  have p1 : BS w1 (some ⟨w.heap.size, 0, none⟩) l := Own.bs (by unfold fillB at ho1; exact ho1)
  go_wp2_with fail
  refine (H2 _ p1).mono ?_; rintro e2 w2 ⟨v2, rfl, hv2, hb2⟩
  obtain ⟨g2, c2, rfl, _, _, _, _, B2⟩ := hv2.form x0
  have h2 := h1.below hb2
  have p2 := p1.below hb2
  have ho2 := ho1.below hb2 hs1
  have hs2 : w.heap.size < w2.heap.size := Nat.lt_of_lt_of_le hs1 hb2.size
  go_wp2_with fail
  refine (H3 _ p2).mono ?_; rintro e3 w3 ⟨v3, rfl, hv3, hb3⟩
  obtain ⟨g3, c3, rfl, _, _, _, _, B3⟩ := hv3.form y0
  have h3 := h2.below hb3
  have ho3 := ho2.below hb3 hs2
  have B2 := B2.below hb3
  have hs3 : w.heap.size < w3.heap.size := Nat.lt_of_lt_of_le hs2 hb3.size
  go_wp2_with fail
  refine (H4 _ h3).mono ?_; rintro e4 w4 ⟨v4, rfl, hv4, hb4⟩
  obtain ⟨g4, c4, rfl, _, _, _, _, B4⟩ := hv4.form x0
  have h4 := h3.below hb4
  have ho4 := ho3.below hb4 hs3
  have B2 := B2.below hb4
  have B3 := B3.below hb4
  have hs4 : w.heap.size < w4.heap.size := Nat.lt_of_lt_of_le hs3 hb4.size
  have S4 := same_any (some ⟨g2, 0, none⟩) (some ⟨g4, 0, none⟩) c2 c4 X X w4 x1 B2 B4
  rw [decide_eq_true rfl] at S4
  go_wp2_with fail
  refine S4.mono ?_; rintro e5 w5 ⟨rfl, hb5⟩
  have h5 := h4.below hb5
  have ho5 := ho4.below hb5 hs4
  have B3 := B3.below hb5
  have hs5 : w.heap.size < w5.heap.size := Nat.lt_of_lt_of_le hs4 hb5.size
  go_wp2_with fail
  refine (H5 _ h5).mono ?_; rintro e6 w6 ⟨v6, rfl, hv6, hb6⟩
  obtain ⟨g6, c6, rfl, _, _, _, _, B6⟩ := hv6.form y0
  have h6 := h5.below hb6
  have ho6 := ho5.below hb6 hs5
  have B3 := B3.below hb6
  have hs6 : w.heap.size < w6.heap.size := Nat.lt_of_lt_of_le hs5 hb6.size
  have S6 := same_any (some ⟨g3, 0, none⟩) (some ⟨g6, 0, none⟩) c3 c6 Y Y w6 y1 B3 B6
  rw [decide_eq_true rfl] at S6
  go_wp2_with fail
  refine S6.mono ?_; rintro e7 w7 ⟨rfl, hb7⟩
  have h7 := h6.below hb7
  have ho7 := ho6.below hb7 hs6
  go_wp2_with fail
  refine (H6 _ ho7 h7).mono ?_; rintro e8 w8 ⟨rfl, hb8⟩
  go_wp2_with fail
  refine (known_any _).mono ?_; rintro e9 w9 ⟨rfl, hb9⟩
  go_wp2_with fail
  go_ret
  refine ⟨rfl, ?_⟩
  have s1 := hb1.size
  have s2 := hb2.size
  have s3 := hb3.size
  have s4 := hb4.size
  have s5 := hb5.size
  have s6 := hb6.size
  have s7 := hb7.size
  have s8 := hb8.size
  exact (((((((hb1.trans (hb2.mono (by omega))).trans (hb3.mono (by omega))).trans (hb4.mono (by omega))).trans (hb5.mono (by omega))).trans (hb6.mono (by omega))).trans (hb7.mono (by omega))).trans (hb8.mono (by omega))).trans (hb9.mono (by omega))
end Go.Proofs.Ytdpgjgoahglgmaa
