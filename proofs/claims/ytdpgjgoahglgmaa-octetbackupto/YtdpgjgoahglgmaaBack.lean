/- OctetBack: the walk. -/
import Derived.Test.YtdpgjgoahglgmaaKnown
import Derived.Test.YtdpgjgoahglgmaaPut
import Derived.Test.YtdpgjgoahglgmaaGetText
namespace Go.Proofs.Ytdpgjgoahglgmaa
open Go.RowKit
theorem num4_be4 (l r : List UInt8) (n : Nat) (h : n < 4294967296) : num4 (l ++ (be4 n ++ r)) l.length = n := by
  have e : ∀ k, (l ++ (be4 n ++ r)).getD (l.length + k) 0 = (be4 n ++ r).getD k 0 := fun k => by
    simp only [List.getD]
    rw [List.getElem?_append_right (by omega), Nat.add_sub_cancel_left]
  unfold num4
  have e0 := e 0
  rw [Nat.add_zero] at e0
  rw [e0, e 1, e 2, e 3]
  simp only [be4, List.cons_append, List.nil_append, List.getD_cons_zero, List.getD_cons_succ, UInt8.toNat_ofNat']
  omega
theorem back_get (l : List UInt8) (n : Nat) (h : n < 4294967296) (r : List UInt8) : getR (l ++ (be4 n ++ r)) l.length = (n, (l.length : Int) + 4, 0) := by
  have hl : (l ++ (be4 n ++ r)).length = l.length + 4 + r.length := by simp [be4]; omega
  unfold getR
  rw [hl, if_neg (by omega), if_neg (by omega), Int.toNat_natCast, num4_be4 l r n h]
theorem back_text (l : List UInt8) (s : List UInt8) (hs : s.length < 4294967296) (t : List UInt8) : getTextR (l ++ (be4 s.length ++ (s ++ t))) l.length s.length = (s, (l.length : Int) + 4 + s.length, 0) := by
  have hl : (l ++ (be4 s.length ++ (s ++ t))).length = l.length + 4 + (s.length + t.length) := by simp [be4]; omega
  unfold getTextR
  simp only [back_get l s.length hs (s ++ t), hl]
  rw [if_neg (by simp), if_neg (by omega), if_neg (by omega)]
  have e : ((l.length : Int) + 4).toNat = l.length + 4 := by omega
  have e2 : l ++ (be4 s.length ++ (s ++ t)) = (l ++ be4 s.length) ++ (s ++ t) := by rw [List.append_assoc]
  have e3 : l.length + 4 = (l ++ be4 s.length).length := by simp [be4]
  rw [e, e2, e3, List.drop_left, List.take_left]
set_option maxHeartbeats 1600000 in
theorem back_walk (a : Option Addr) (cap : Nat) (l : List UInt8) (n : Nat) (hn : n < 4294967296) (s : ByteArray) (a3 : Option Addr) (cap3 : Nat) (r : List UInt8) (w : World) (hlen : l.length + s.size + r.length ≤ 1048576) (hcap : l.length ≤ cap) (h : BS w a l)
    (h3 : BS w a3 r) (hnil : a3 = none → cap3 = 0) :
    Calls Try.prog 6 #[.slice a l.length cap, .int .u32 n, .string s, .slice a3 r.length cap3] w fun e w' => e = .returned (.bool true) ∧ Below w.heap.size w w' := by
  have es : s.data.toList.length = s.size := Array.length_toList
  have H1 := put_any a cap l n hn w (by omega) hcap h
  have el : (l ++ be4 n).length = l.length + 4 := by simp [be4]
  have H2 := fun (g c : Nat) (wx : World) (hc : (l ++ be4 n).length ≤ c) (hx : BS wx (some ⟨g, 0, none⟩) (l ++ be4 n)) => puttext_any (some ⟨g, 0, none⟩) c (l ++ be4 n) s wx (by omega) hc hx
  obtain ⟨X, hX⟩ : ∃ X, X = (l ++ be4 n ++ be4 s.size ++ s.data.toList) ++ r := ⟨_, rfl⟩
  have eX : X.length = l.length + 8 + s.size + r.length := by
    rw [hX]; simp only [List.length_append, es, be4, List.length_cons, List.length_nil]
  have g1 : getR X l.length = (n, (l.length : Int) + 4, 0) := by
    rw [hX]; simp only [List.append_assoc]; exact back_get l n hn _
  have g2 : getTextR X ((l.length : Int) + 4) s.size = (s.data.toList, (l.length : Int) + 8 + s.size, 0) := by
    have := back_text (l ++ be4 n) s.data.toList (by rw [es]; omega) r
    rw [el, es] at this
    have e8 : ((l.length + 4 : Nat) : Int) = (l.length : Int) + 4 := by omega
    rw [e8] at this
    rw [hX]
    simp only [List.append_assoc] at this ⊢
    rw [this]
    have e9 : (l.length : Int) + 4 + 4 + s.size = (l.length : Int) + 8 + s.size := by omega
    rw [e9]
  have H3 := fun (g c : Nat) (wx : World) (hc : X.length ≤ c) (hx : BS wx (some ⟨g, 0, none⟩) X) => get_any (some ⟨g, 0, none⟩) c X l.length wx (by omega) hc hx
  have H4 := fun (g c : Nat) (wx : World) (hc : X.length ≤ c) (hx : BS wx (some ⟨g, 0, none⟩) X) => gettext_any (some ⟨g, 0, none⟩) c X ((l.length : Int) + 4) s.size wx (by omega) hc hx (by omega) (by omega)
  rw [g1] at H3
  rw [g2] at H4
  rw [show textOf s.data.toList = s from rfl] at H4
  obtain ⟨L1, hL1⟩ : ∃ L, L = l ++ be4 n := ⟨_, rfl⟩
  rw [← hL1] at H1 H2 el hX
  have HX : Hid (X = L1 ++ be4 s.size ++ s.data.toList ++ r) := hX
  have p1 : 0 < L1.length := by omega
  have HE : Hid (X.length = l.length + 8 + s.size + r.length) := eX
  have HL : Hid (L1.length = l.length + 4) := el
  clear hL1 hX g1 g2 eX el es
  go_enter Try.func6, Try.ntmps6
  go_wp2_with fail
  refine H1.mono ?_; rintro e w1 ⟨v1, rfl, hv1, hb1⟩
  obtain ⟨k1, c1, rfl, _, _, hc1, _, B1⟩ := hv1.form p1
  go_wp2_with fail
  refine (H2 k1 c1 _ hc1 B1).mono ?_; rintro e2 w2 ⟨v2, rfl, hv2, hb2⟩
  have h3b := (h3.below hb1).below hb2
  obtain ⟨v3, w3, hr3, hv3, hb3⟩ := run_own_bytes w2 w1.heap.size v2 (L1 ++ be4 s.size ++ s.data.toList) r a3 cap3 hv2 h3b hnil hb2.size (by have := HE.out; rw [HX.out] at this; simp only [List.length_append] at this ⊢; omega)
  rw [← HX.out] at hv3
  obtain ⟨k3, c3, rfl, _, _, hc3, _, B3⟩ := hv3.form (by rw [HE.out]; omega)
  clear hv3 hv2 hv1
  go_wp2_with (at_builtin; refine wpList_append_run rfl (.tmp 20) (.tmp 21) 25 25 rfl _ _ rfl rfl _ w3 hr3 ?_; clear hr3)
  refine (H3 k3 c3 _ hc3 B3).mono ?_; rintro e4 w4 ⟨rfl, hb4⟩
  have B4 := B3.below hb4
  go_wp2_with fail
  refine (H4 k3 c3 _ hc3 B4).mono ?_; rintro e5 w5 ⟨rfl, hb5⟩
  have hend : ((l.length : Int) + 8 + s.size == (X.length : Int) - r.length) = true := by
    have := HE.out
    rw [this]; simp
  go_wp2_with fail
  refine (known_any _).mono ?_; rintro e6 w6 ⟨rfl, hb6⟩
  go_wp2_with fail
  go_ret
  refine ⟨rfl, ?_⟩
  have s1 := hb1.size
  have s2 := hb2.size
  have s3 := hb3.size
  have s4 := hb4.size
  have s5 := hb5.size
  exact ((((hb1.trans (hb2.mono (by omega))).trans (hb3.mono (by omega))).trans (hb4.mono (by omega))).trans (hb5.mono (by omega))).trans (hb6.mono (by omega))
end Go.Proofs.Ytdpgjgoahglgmaa
